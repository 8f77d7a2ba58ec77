/- Several of the texts that this claim leans on, one behind the other. -/
import Derived.Test.YtmdlcalnncncjaaPVal
import Derived.Test.YtmdlcalnncncjaaTSam
import Derived.Test.YtmdlcalnncncjaaBase
import Derived.Deep.QuietTactic
import Derived.Test.YtmdlcalnncncjaaTPlace
import Derived.Test.YtmdlcalnncncjaaTStH
import Derived.Test.YtmdlcalnncncjaaTWithRef
import Derived.Test.YtmdlcalnncncjaaTNewL
import Derived.Deep.AppendSrc
import Derived.Deep.AppendLies
import Derived.Test.YtmdlcalnncncjaaTRight
import Derived.Deep.RegionHeld3
import Derived.Deep.CutRange
import Derived.Test.YtmdlcalnncncjaaTGet
import Derived.Maps.AppendAt
import Derived.Lib.SliceRun
/- The reference's Right, Same, Under and Value of paths. -/
set_option linter.unusedVariables false
set_option linter.unusedSimpArgs false
namespace Go.Proofs.Ytmdlcalnncncjaa
open Go.RowKit
set_option maxHeartbeats 1000000 in
set_option maxRecDepth 100000 in
theorem path_right_ref (p : List St) (A : Option Addr) (n c : Nat) (w : World) (hnl : n = p.length) (hn : p.length ≤ maxLen) (hA : PathAt w A p) (hkk : ∀ s ∈ p, s.k.size ≤ 4294967296) :
    Calls Try.prog 41 #[.slice A n c] w fun e w' => YesNo (PathR p) w e w' := by
  subst hnl
  unfold maxLen at hn
  go_enter Try.func41, Try.ntmps41
  go_wp2_with fail
  go_loopw [3] (fun iv wr => ∃ i : Nat, iv = .int .i64 i ∧ i ≤ p.length ∧ i ≤ 40 ∧ (∀ s ∈ p.take i, StR s) ∧ Below w.heap.size w wr) (fun iv _ => p.length - (intOf iv).toNat)
  case atStart => exact ⟨0, rfl, Nat.zero_le _, Nat.zero_le _, by simp, Below.refl _ _⟩
  case round =>
    obtain ⟨i, rfl, hi, hi2, ht, hbel⟩ := hrel
    have HT := Lib.hid ht
    have HB := Lib.hid hbel
    clear ht hbel
    by_cases h1 : i < p.length
    · by_cases h2 : i < 40
      · obtain ⟨s, hs⟩ : ∃ s, p[i]? = some s := ⟨p[i], List.getElem?_eq_getElem h1⟩
        obtain ⟨ad, rfl, hbl, hc, hok⟩ := hA i s hs
        obtain ⟨q0, q1, q2⟩ := hc.below HB.out hbl
        have HS := Lib.hid hs
        have HKK := Lib.hid (hkk s (List.mem_of_getElem? hs))
        have HNO := Lib.hid (show ¬ StR s → ¬ PathR p from fun h k => h (k.2 s (List.mem_of_getElem? hs)))
        have HYE := Lib.hid (show StR s → ∀ t ∈ p.take (i + 1), StR t from fun h => all_next HT.out HS.out h)
        have HBA := Lib.hid (fun o : Obj => HB.out.trans ((one_alloc wr o).mono HB.out.size))
        clear hs hok hc
        obtain ⟨sk, sa, si⟩ := s
        simp only at q0 q1 q2 HKK
        cases si
        · by_cases h0 : sa = 0
          · subst h0
            generalize hr : rightB sk = r
            have HR := Lib.hid hr
            have K := Lib.hid (fun W => right_ref sk HKK.out W)
            rw [hr] at K
            clear hr
            cases r
            · go_wp2_with (go_at_call 32; refine (K.out _).mono ?_; rintro e w2 ⟨rfl, rfl⟩)
              go_ret
              refine YesNo.no (HNO.out fun h => ?_) (HBA.out _)
              rcases h with ⟨h, _⟩ | ⟨_, _, h⟩
              · cases h
              · have := HR.out; simp only at h; rw [h] at this; cases this
            · go_wp2_with (go_at_call 32; refine (K.out _).mono ?_; rintro e w2 ⟨rfl, rfl⟩)
              exact ⟨⟨i + 1, by go_num, by omega, by omega, HYE.out (.inr ⟨rfl, rfl, HR.out⟩), HBA.out _⟩, by simp [intOf]; omega⟩
          · have h0' := bq_no h0
            have HE := Lib.hid h0
            clear h0
            go_wp2_with fail
            go_ret
            refine YesNo.no (HNO.out fun h => ?_) (HBA.out _)
            rcases h with ⟨h, _⟩ | ⟨_, h, _⟩
            · cases h
            · exact HE.out h
        · by_cases h0 : sk.size = 0
          · obtain rfl : sk = ⟨#[]⟩ := empty_of h0
            by_cases h3 : sa < 0
            · go_wp2_with fail
              go_ret
              refine YesNo.no (HNO.out fun h => ?_) (HBA.out _)
              rcases h with ⟨_, _, h, _⟩ | ⟨h, _⟩
              · simp only at h; omega
              · cases h
            · by_cases h4 : 9007199254740991 < sa
              · go_wp2_with fail
                go_ret
                refine YesNo.no (HNO.out fun h => ?_) (HBA.out _)
                rcases h with ⟨_, _, _, h⟩ | ⟨h, _⟩
                · simp only at h; omega
                · cases h
              · go_wp2_with fail
                exact ⟨⟨i + 1, by go_num, by omega, by omega, HYE.out (.inl ⟨rfl, rfl, by simp only; omega, by simp only; omega⟩), HBA.out _⟩, by simp [intOf]; omega⟩
          · have ds := ne_empty h0
            have HE := Lib.hid h0
            clear h0
            go_wp2_with fail
            go_ret
            refine YesNo.no (HNO.out fun h => ?_) (HBA.out _)
            rcases h with ⟨_, h, _⟩ | ⟨h, _⟩
            · exact HE.out h
            · cases h
      · have h5 : ¬ p.length ≤ 30 := by omega
        go_wp2_with fail
        go_ret
        refine ⟨_, rfl, ⟨fun h => ?_, fun h => absurd h.1 h5⟩, HB.out⟩
        simp at h
        omega
    · have HN : Hid (∀ s ∈ p, StR s) := Lib.hid (by have := HT.out; rwa [List.take_of_length_le (by omega)] at this)
      go_wp2_with fail
      go_ret
      refine ⟨_, rfl, ⟨fun h => ⟨?_, HN.out⟩, fun h => ?_⟩, HB.out⟩
      · simp at h; omega
      · have := h.1; simp; omega
theorem take_all_eq {p q : List St} (hl : p.length = q.length) {i : Nat} (hi : p.length ≤ i) (h : p.take i = q.take i) : p = q := by
  rwa [List.take_of_length_le hi, List.take_of_length_le (by omega)] at h
set_option maxHeartbeats 1000000 in
set_option maxRecDepth 100000 in
theorem path_same_ref (p q : List St) (A B : Option Addr) (n m c d : Nat) (w : World) (hnl : n = p.length) (hml : m = q.length) (hA : PathAt w A p) (hB : PathAt w B q) (hp : p.length ≤ 1000) (hq : q.length ≤ maxLen) :
    Calls Try.prog 47 #[.slice A n c, .slice B m d] w fun e w' => YesNo (p = q) w e w' := by
  subst hnl hml
  unfold maxLen at hq
  by_cases hl : p.length = q.length
  case neg =>
    have hl' : ((p.length : Int) == (q.length : Int)) = false := by simp; omega
    have HE := Lib.hid hl
    clear hl
    go_enter Try.func47, Try.ntmps47
    go_wp2_with fail
    go_ret
    exact YesNo.no (fun h => HE.out (by rw [h])) (Below.refl _ _)
  have hl' : ((p.length : Int) == (q.length : Int)) = true := by simp; omega
  have HL := Lib.hid hl
  go_enter Try.func47, Try.ntmps47
  go_wp2_with fail
  go_loopw [5] (fun iv wr => ∃ i : Nat, iv = .int .i64 i ∧ i ≤ p.length ∧ p.take i = q.take i ∧ Below w.heap.size w wr) (fun iv _ => p.length - (intOf iv).toNat)
  case atStart => exact ⟨0, rfl, Nat.zero_le _, by simp, Below.refl _ _⟩
  case round =>
    obtain ⟨i, rfl, hi, ht, hbel⟩ := hrel
    have HT := Lib.hid ht
    have HB := Lib.hid hbel
    clear ht hbel
    by_cases h1 : i < p.length
    · have h2 : i < q.length := by omega
      obtain ⟨s, hs⟩ : ∃ s, p[i]? = some s := ⟨p[i], List.getElem?_eq_getElem h1⟩
      obtain ⟨t, ht⟩ : ∃ t, q[i]? = some t := ⟨q[i], List.getElem?_eq_getElem h2⟩
      obtain ⟨ad, rfl, hbl, hc, -⟩ := hA i s hs
      obtain ⟨bd, rfl, hbl2, hc2, -⟩ := hB i t ht
      obtain ⟨q0, q1, q2⟩ := hc.below HB.out hbl
      obtain ⟨r0, r1, r2⟩ := hc2.below HB.out hbl2
      have HS := Lib.hid hs
      have HT2 := Lib.hid ht
      clear hc hc2 hs ht hbl hbl2
      have HNE := Lib.hid (show s ≠ t → p ≠ q from fun h e => by
        have a := HS.out
        have b := HT2.out
        rw [e, b] at a
        cases a
        exact h rfl)
      obtain ⟨sk, sa, si⟩ := s
      obtain ⟨tk, ta, ti⟩ := t
      simp only at q0 q1 q2 r0 r1 r2
      by_cases ek : sk = tk
      · by_cases ea : sa = ta
        · by_cases ei : si = ti
          · subst ek ea ei
            have HN := Lib.hid (take_two HT.out HS.out HT2.out)
            go_wp2_with fail
            go_quiet (fail)
            go_wp2_with fail
            exact ⟨⟨i + 1, by go_num, by omega, HN.out, below_drewN3 HB.out _⟩, by simp [intOf]; omega⟩
          · have HM := Lib.hid (HNE.out (by simp [ei]))
            have ek' := bytes_eq ek
            have ei' : (si == ti) = false := by simpa using ei
            subst ea
            clear ek ei HNE
            go_wp2_with fail
            go_quiet (fail)
            go_wp2_with fail
            go_ret
            exact YesNo.no HM.out (below_drewN3 HB.out _)
        · have HM := Lib.hid (HNE.out (by simp [ea]))
          have ek' := bytes_eq ek
          have ea' : (sa == ta) = false := by simpa using ea
          clear ek ea HNE
          go_wp2_with fail
          go_quiet (fail)
          go_wp2_with fail
          go_ret
          exact YesNo.no HM.out (below_drewN3 HB.out _)
      · have HM := Lib.hid (HNE.out (by simp [ek]))
        have ek' := bytes_ne ek
        clear ek HNE
        go_wp2_with fail
        go_quiet (fail)
        go_wp2_with fail
        go_ret
        exact YesNo.no HM.out (below_drewN3 HB.out _)
    · have HM := Lib.hid (take_all_eq hl (by omega) HT.out)
      go_wp2_with fail
      go_ret
      exact YesNo.yes HM.out HB.out
theorem PathAt.take {w : World} {A : Option Addr} {p : List St} (h : PathAt w A p) (n : Nat) : PathAt w A (p.take n) := fun i s hs => by
  by_cases e : i < n
  · rw [List.getElem?_take_of_lt e] at hs
    exact h i s hs
  · rw [List.getElem?_take_eq_none (by omega)] at hs
    cases hs
theorem PathAt.some {w : World} {A : Option Addr} {p : List St} (h : PathAt w A p) (hp : 0 < p.length) : ∃ ad, A = Option.some ad := by
  obtain ⟨ad, e, _⟩ := h 0 p[0] (List.getElem?_eq_getElem hp)
  exact ⟨ad, e⟩
theorem path_under_ref (p q : List St) (A B : Option Addr) (n m c d : Nat) (w : World) (hnl : n = p.length) (hml : m = q.length) (hA : PathAt w A p) (hB : PathAt w B q) (hp : p.length ≤ 1000) (hq : q.length ≤ maxLen) (hd : q.length ≤ d) :
    Calls Try.prog 53 #[.slice A n c, .slice B m d] w fun e w' => YesNo (p.length ≤ q.length ∧ p = q.take p.length) w e w' := by
  subst hnl hml
  by_cases hl : p.length ≤ q.length
  case neg =>
    unfold maxLen at hq
    go_enter Try.func53, Try.ntmps53
    go_wp2_with fail
    go_ret
    exact YesNo.no (fun h => hl h.1) (Below.refl _ _)
  have K : Hid (Calls Try.prog 47 #[.slice A p.length c, .slice B p.length d] w fun e w' => YesNo (p = q.take p.length) w e w') := Lib.hid (path_same_ref p (q.take p.length) A B p.length p.length c d w rfl (by simp; omega) hA (hB.take _) hp (by rw [List.length_take]; omega))
  have hpd : p.length ≤ d := by omega
  unfold maxLen at hq
  have HS := Lib.hid (hB.some)
  clear hA hB
  cases B with
  | none =>
    have hq0 : q.length = 0 := by
      rcases Nat.eq_zero_or_pos q.length with h | h
      · exact h
      · obtain ⟨ad, e⟩ := HS.out h; cases e
    have hp0 : p.length = 0 := by omega
    clear HS
    rw [hp0] at K hl hpd hp ⊢
    go_enter Try.func53, Try.ntmps53
    go_wp2_with fail
    refine K.out.mono ?_
    rintro e w1 ⟨r, rfl, hr, hb1⟩
    have HR := Lib.hid hr
    have HB1 := Lib.hid hb1
    clear hr hb1 K
    go_wp2_with fail
    go_ret
    exact ⟨_, rfl, ⟨fun h => ⟨hl, HR.out.1 (by simpa using h)⟩, fun h => by simpa using HR.out.2 h.2⟩, HB1.out⟩
  | some bd =>
    clear HS
    go_enter Try.func53, Try.ntmps53
    go_wp2_with fail
    refine K.out.mono ?_
    rintro e w1 ⟨r, rfl, hr, hb1⟩
    have HR := Lib.hid hr
    have HB1 := Lib.hid hb1
    clear hr hb1 K
    go_wp2_with fail
    go_ret
    exact ⟨_, rfl, ⟨fun h => ⟨hl, HR.out.1 (by simpa using h)⟩, fun h => by simpa using HR.out.2 h.2⟩, HB1.out⟩
end Go.Proofs.Ytmdlcalnncncjaa

/- The reference's Value; zero; awake. -/
set_option linter.unusedVariables false
set_option linter.unusedSimpArgs false
namespace Go.Proofs.Ytmdlcalnncncjaa
open Go.RowKit
set_option maxHeartbeats 2000000 in
set_option maxRecDepth 100000 in
theorem value_ref (p : List St) (A : Option Addr) (n c : Nat) (w : World) (hnl : n = p.length) (hn : p.length ≤ 1000) (hA : PathAt w A p) :
    Calls Try.prog 46 #[.slice A n c] w fun e w' => WithR (pathVa p) w e w' := by
  subst hnl
  have HA := Lib.hid hA
  obtain ⟨i0, hi0, hz0, hz1, hz2⟩ := info_parts info25
  clear hA
  have hres : ((w.alloc (Obj.cells #[.int .i64 0, .int .i64 0, .string { data := #[] }, .slice none 0 0, .slice none 0 0] 25)).alloc (Obj.cells #[.int .i64 4, .int .i64 0, .string { data := #[] }, .slice none 0 0, .slice none 0 0] 25)).rowIs w.heap.size 25 5 zeroRes := by
    refine hdAt_row (h := zeroHd) ?_
    rw [Below.heap_alloc _ _ _ (by simp)]
    exact heap_alloc_new _ _
  have hrow : ((w.alloc (Obj.cells #[.int .i64 0, .int .i64 0, .string { data := #[] }, .slice none 0 0, .slice none 0 0] 25)).alloc (Obj.cells #[.int .i64 4, .int .i64 0, .string { data := #[] }, .slice none 0 0, .slice none 0 0] 25)).rowIs (w.heap.size + 1) 25 5 (hdAt ⟨4, 0, ByteArray.empty, none, 0, 0, none, 0, 0⟩) := by
    refine hdAt_row (h := ⟨4, 0, ByteArray.empty, none, 0, 0, none, 0, 0⟩) ?_
    have h9 := heap_alloc_new (w.alloc (Obj.cells #[.int .i64 0, .int .i64 0, .string { data := #[] }, .slice none 0 0, .slice none 0 0] 25)) (Obj.cells #[.int .i64 4, .int .i64 0, .string { data := #[] }, .slice none 0 0, .slice none 0 0] 25)
    rwa [World.size_alloc] at h9
  have hbd := two_allocs w (Obj.cells #[.int .i64 0, .int .i64 0, .string { data := #[] }, .slice none 0 0, .slice none 0 0] 25) (Obj.cells #[.int .i64 4, .int .i64 0, .string { data := #[] }, .slice none 0 0, .slice none 0 0] 25)
  have hsd : ((w.alloc (Obj.cells #[.int .i64 0, .int .i64 0, .string { data := #[] }, .slice none 0 0, .slice none 0 0] 25)).alloc (Obj.cells #[.int .i64 4, .int .i64 0, .string { data := #[] }, .slice none 0 0, .slice none 0 0] 25)).heap.size = w.heap.size + 2 := by simp
  go_enter Try.func46, Try.ntmps46
  go_wp2_with fail
  generalize (w.alloc (Obj.cells #[.int .i64 0, .int .i64 0, .string { data := #[] }, .slice none 0 0, .slice none 0 0] 25)).alloc (Obj.cells #[.int .i64 4, .int .i64 0, .string { data := #[] }, .slice none 0 0, .slice none 0 0] 25) = wd at hres hrow hbd hsd ⊢
  have HBD := Lib.hid hbd
  have HRES := Lib.hid hres
  clear hbd hres
  go_loopw [4] (fun iv wr => ∃ (i : Nat) (A' : Option Addr) (c' : Nat), iv = .int .i64 i ∧ i ≤ p.length ∧ LoopP wd (w.heap.size + 1) p i wr A' c') (fun iv _ => p.length - (intOf iv).toNat)
  case atStart => exact ⟨0, none, 0, rfl, Nat.zero_le _, ⟨Kp.refl _ _, hrow, World.ownsRow_nil _ _ _ _, rfl, fun j y u _ hu => by simp at hu⟩⟩
  case round =>
    obtain ⟨i, A', c', rfl, hi, hLW⟩ := hrel
    have HLW := Lib.hid hLW
    have hkp := HLW.out.kp
    have cO := HLW.out.row.cell (show 3 < 5 by decide)
    have fO := HLW.out.row.frozen 3
    have hOr := HLW.out.row.lt
    have hszr := HLW.out.kp.size
    have HRO := Lib.hid (show some (w.heap.size + 1) ≠ (Value.slice A' i c').ownBlock from fun e => by have := own_lo HLW.out.own e.symm; omega)
    have HAr := Lib.hid (show PathAt wr A p from fun j s hs => by
      obtain ⟨ad, e, h1, h2, h3⟩ := HA.out j s hs
      have h4 := (h2.below HBD.out h1)
      refine ⟨ad, e, by omega, ⟨?_, ?_, ?_⟩, h3⟩
      · rw [hkp.cell (by omega) (by omega)]; exact h4.1
      · rw [hkp.cell (p := ⟨(ad.add (j * 3)).block, _, none⟩) (by show (ad.add (j * 3)).block ≠ _; omega) (by show (ad.add (j * 3)).block < _; omega)]; exact h4.2.1
      · rw [hkp.cell (p := ⟨(ad.add (j * 3)).block, _, none⟩) (by show (ad.add (j * 3)).block ≠ _; omega) (by show (ad.add (j * 3)).block < _; omega)]; exact h4.2.2)
    simp only [hdAt, Hd.cells, List.getD_cons_succ, List.getD_cons_zero] at cO
    clear hLW hkp
    by_cases hlt : i < p.length
    · obtain ⟨s, hs⟩ : ∃ s, p[i]? = some s := ⟨p[i], List.getElem?_eq_getElem hlt⟩
      obtain ⟨ad, rfl, hbl, hcell, hok⟩ := HAr.out i s hs
      obtain ⟨q0, q1, q2⟩ := hcell
      have HS := Lib.hid hs
      have HOK := Lib.hid hok
      clear hs hok HAr
      obtain ⟨sk, sa, si⟩ := s
      simp only at q0 q1 q2
      have hszw : wd.heap.size ≤ wr.heap.size := by omega
      cases si
      · go_wp2_with (at_builtin; refine wpList_append_lies _ rfl _ _ 22 rfl wd.heap.size 25 i0 _ 5 80 Try.underlying22 hi0 hz0 hz1 hz2 rfl (by decide) (.slice A' i c') i (((p.take i).map stHd).flatMap Hd.cells) rfl (own_below HLW.out.own (two_allocs wr _ _) (Nat.le_refl _)) ⟨wr.heap.size + 1, 0, none⟩ 1 1 (Hd.cells (stHd ⟨sk, sa, false⟩)) rfl rfl (news_two wr _ _ _) (by simp [stHd, Hd.cells, Value.oneCell']) (by decide) (by unfold maxLen; omega) (by omega) (Nat.le_trans hszw ((two_allocs wr _ _)).size) _ rfl ?_; intro g cap w3 hown3 hgrow3 hat3 hlt3; have cO3 := cur_gr cO ((two_allocs wr _ _)) hgrow3 HRO.out; have fO3 := cur_grf cO fO ((two_allocs wr _ _)) hgrow3 HRO.out)
        exact ⟨⟨i + 1, _, _, by go_num, by omega, LoopP.next HLW.out (by omega) HS.out HOK.out (two_allocs wr _ _) hown3 hgrow3 hat3⟩, by simp [intOf]; omega⟩
      · go_wp2_with (at_builtin; refine wpList_append_lies _ rfl _ _ 22 rfl wd.heap.size 25 i0 _ 5 80 Try.underlying22 hi0 hz0 hz1 hz2 rfl (by decide) (.slice A' i c') i (((p.take i).map stHd).flatMap Hd.cells) rfl (own_below HLW.out.own (two_allocs wr _ _) (Nat.le_refl _)) ⟨wr.heap.size + 1, 0, none⟩ 1 1 (Hd.cells (stHd ⟨sk, sa, true⟩)) rfl rfl (news_two wr _ _ _) (by simp [stHd, Hd.cells, Value.oneCell']) (by decide) (by unfold maxLen; omega) (by omega) (Nat.le_trans hszw ((two_allocs wr _ _)).size) _ rfl ?_; intro g cap w3 hown3 hgrow3 hat3 hlt3; have cO3 := cur_gr cO ((two_allocs wr _ _)) hgrow3 HRO.out; have fO3 := cur_grf cO fO ((two_allocs wr _ _)) hgrow3 HRO.out)
        exact ⟨⟨i + 1, _, _, by go_num, by omega, LoopP.next HLW.out (by omega) HS.out HOK.out (two_allocs wr _ _) hown3 hgrow3 hat3⟩, by simp [intOf]; omega⟩
    · obtain rfl : i = p.length := by omega
      have hres := rowIs_below' (B := 0) HRES.out (show wr.heap[w.heap.size]? = wd.heap[w.heap.size]? from HLW.out.kp.block w.heap.size (by omega) (by omega))
      have r0 := HLW.out.row.cell (show 0 < 5 by decide)
      have r1 := HLW.out.row.cell (show 1 < 5 by decide)
      have r2 := HLW.out.row.cell (show 2 < 5 by decide)
      have r4 := HLW.out.row.cell (show 4 < 5 by decide)
      simp only [hdAt, Hd.cells, List.getD_cons_succ, List.getD_cons_zero] at r0 r1 r2 r4
      have z0 := hres.cell (show 0 < 5 by decide)
      have z1 := hres.cell (show 1 < 5 by decide)
      have z2 := hres.cell (show 2 < 5 by decide)
      have z3 := hres.cell (show 3 < 5 by decide)
      have z4 := hres.cell (show 4 < 5 by decide)
      have g0 := hres.frozen 0
      have g1 := hres.frozen 1
      have g2 := hres.frozen 2
      have g3 := hres.frozen 3
      have g4 := hres.frozen 4
      simp only [hdAt, Hd.cells, List.getD_cons_succ, List.getD_cons_zero] at z0 z1 z2 z3 z4
      clear hres
      go_wp2_with fail
      refine bodyPost_ret (v := .agg #[.int .i64 4, .int .i64 0, .string ByteArray.empty, .slice A' p.length c', .slice none 0 0]) (by simp [results, Try.results46, go_sem, z0, z1, z2, z3, z4]; try rfl) rfl ?_
      have hbw : Below w.heap.size w wr := HBD.out.trans (HLW.out.kp.bel.mono (by omega))
      refine ⟨⟨4, 0, ByteArray.empty, A', p.length, c', none, 0, 0⟩, rfl, ?_, res_below hbw (Nat.le_refl _)⟩
      exact LoopV.done HLW.out (by simp) (by unfold maxLen; simp; omega) (by decide) (fun _ h => h.elim) (fun b hb hs => res_set (w := w) b (by rcases hs with h | h; exact h.elim; omega))
theorem zero_law6 (a : Va) (S : Nat → Prop) (h : Hd) (w : World) (H : Lies w S a h) : Calls Try.prog 44 #[h.val] w fun e w' => SameR a zeroVa w e w' := by
  have h1 := same_ref a zeroVa S (fun _ => True) h zeroHd (w.alloc (Obj.cells #[.int .i64 h.k, .int .i64 h.n, .string h.s, .slice h.A h.la h.lc, .slice h.F h.lf h.fc] 25)) (H.below ((Below.refl _ _).alloc (Nat.le_refl _) _) (Nat.le_refl _)) (lies_zero _ _)
  have H1 := Lib.hid h1
  clear h1 H
  unfold Hd.val at *
  go_enter Try.func44, Try.ntmps44
  go_wp2_with fail
  refine H1.out.mono ?_
  rintro e w1 ⟨r, rfl, hr, hb1⟩
  have HR := Lib.hid hr
  have HB := Lib.hid (after_alloc hb1).1
  clear hr hb1 H1
  go_wp2_with fail
  go_ret
  exact ⟨r, rfl, HR.out, HB.out⟩
/-- The path that awake asks. -/
abbrev place3 : St := ⟨⟨#[]⟩, 3, true⟩
theorem path3 (w : World) : PathAt (w.alloc (Obj.cells #[.string ⟨#[]⟩, .int .i64 3, .bool true] 72)) (some ⟨w.heap.size, 0, none⟩) [place3] := by
  intro i s hs
  have hi : i < 1 := (List.getElem?_eq_some_iff.1 hs).1
  obtain rfl : i = 0 := by omega
  simp at hs
  subst hs
  refine ⟨_, rfl, by rw [adb]; simp, ⟨?_, ?_, ?_⟩, by decide, by decide, by decide⟩
  · exact (World.cell?_alloc_new ..)
  · exact (World.cell?_alloc_new ..)
  · exact (World.cell?_alloc_new ..)
theorem right3 : PathR [place3] := ⟨by decide, fun s hs => by simp at hs; subst hs; exact .inl ⟨rfl, rfl, by decide, by decide⟩⟩
set_option maxHeartbeats 1000000 in
set_option maxRecDepth 100000 in
theorem awake6 (w : World) : Calls Try.prog 39 #[] w fun e w' => e = .returned (.bool true) ∧ Below w.heap.size w w' := by
  have H1 := Lib.hid (step_place 3 w)
  go_enter Try.func39, Try.ntmps39
  go_wp2_with fail
  refine H1.out.mono ?_
  rintro e w1 ⟨rfl, hb1⟩
  have HB1 := Lib.hid hb1
  have H2 := Lib.hid (value_prog [place3] _ 1 1 _ rfl (by decide) (path3 w1) (fun s hs => by simp at hs; subst hs; decide))
  clear hb1 H1
  go_wp2_with fail
  refine H2.out.mono ?_
  rintro e w2 ⟨b, h', er, rfl, hlies, hb2, hyes, -⟩
  obtain ⟨rfl, rfl⟩ := hyes right3
  have HB2 := Lib.hid (after_alloc hb2).1
  have hop := hlies.op
  simp only [pathVa, Lies] at hlies
  obtain ⟨⟨-, -, -, h4, -, -⟩, -⟩ := hlies
  obtain ⟨ad, u, hA, -, hbl, hLu, hat⟩ := hop.L 0 (stVa place3) rfl
  have hun : u.n = 3 := by
    simp only [stVa, Lies] at hLu
    exact hLu.1.2.1
  obtain ⟨hk, hnn, hs, A', la, lc, F', lf, fc⟩ := h'
  simp only at hA h4
  subst hA
  have h4' : la = 1 := h4
  subst h4'
  obtain ⟨k0, k1, k2, k3, k4⟩ := hat
  rw [hun] at k1
  simp only [Nat.zero_mul] at k0 k1 k2 k3 k4 hbl
  have e0 : ad.add 0 = ad := by simp [Addr.add]
  rw [e0] at k0 k1 k2 k3 k4 hbl
  clear hop hyes hb2 hLu h4 hun e0 H2
  simp only
  go_wp2_with fail
  go_ret
  exact ⟨rfl, HB1.out.trans ((HB2.out.trans ((one_alloc _ _).mono HB2.out.size)).mono HB1.out.size)⟩
end Go.Proofs.Ytmdlcalnncncjaa

/- A region that draws its order, whose operations only read, and whose callees keep what there was. -/
set_option linter.unusedVariables false
set_option linter.unusedSimpArgs false
namespace Go.Proofs.Ytmdlcalnncncjaa
open Go.RowKit
/-- A world in which all is kept. -/
structure BlwBy (w : World) where
  now : World
  bel : Below w.heap.size w now
instance (w : World) : Inhabited (BlwBy w) := ⟨⟨w, Below.refl _ _⟩⟩
theorem wp_quiet_below {id : Nat} {Q : Exit → Act → World → Prop} {a : Act} {w : World} {l : List Oper} (hm : Try.prog.follows .mixedOrders = true) (hB : Region.lexB .any l.toArray = true)
    (h : wpQuiet Try.prog l.toArray (fun w' => ∃ p : BlwBy w, w' = p.now) (fun a' => ∀ w', (∃ p : BlwBy w, w' = p.now) → Q .normal a' w') l a) : (Code.region id l.toArray true).wp Try.prog Q a w :=
  wp_region_quiet (C := fun w' => ∃ p : BlwBy w, w' = p.now) hm hB ⟨⟨w.drew, (Below.refl _ _).drew⟩, rfl⟩ (by simpa using h)
theorem Calls.below_of {f : FuncId} {args : Array Value} {w : World} {p : BlwBy w} {v : Value}
    (h : Calls Try.prog f args p.now fun e w' => e = .returned v ∧ Below p.now.heap.size p.now w') : Calls Try.prog f args p.now fun e w'' => e = .returned v ∧ ∃ q : BlwBy w, w'' = q.now :=
  h.mono fun _ w2 ⟨he, hb⟩ => ⟨he, ⟨w2, p.bel.trans (hb.mono p.bel.size)⟩, rfl⟩
theorem BlwBy.cell {w : World} {b o : Nat} {v : Value} (hb : b < w.heap.size) (h : w.cell? ⟨b, o, none⟩ = some v) (p : BlwBy w) : p.now.cell? ⟨b, o, none⟩ = some v := (p.bel.cell (p := ⟨b, o, none⟩) hb).trans h
theorem BlwBy.cellA {w : World} {a : Addr} {v : Value} (hb : a.block < w.heap.size) (h : w.cell? a = some v) (p : BlwBy w) : p.now.cell? a = some v := (p.bel.cell hb).trans h
end Go.Proofs.Ytmdlcalnncncjaa

/- Where a path leads: member and follow. -/
set_option linter.unusedVariables false
set_option linter.unusedSimpArgs false
namespace Go.Proofs.Ytmdlcalnncncjaa
open Go.RowKit
/-- The place of a key. -/
def kIdx : List ByteArray → ByteArray → Option Nat
  | [], _ => none
  | x :: r, key => if x = key then some 0 else (kIdx r key).map (· + 1)
theorem kIdx_none : ∀ {ks : List ByteArray} {key : ByteArray}, kIdx ks key = none ↔ key ∉ ks
  | [], key => by simp [kIdx]
  | x :: r, key => by
    simp only [kIdx]
    by_cases h : x = key
    · simp [h]
    · rw [if_neg h, Option.map_eq_none_iff, kIdx_none]
      have h2 : ¬ key = x := fun e => h e.symm
      simp [h2]
theorem kIdx_some : ∀ {ks : List ByteArray} {key : ByteArray} {i : Nat}, kIdx ks key = some i → ks[i]? = some key ∧ key ∉ ks.take i
  | [], key, i, h => by simp [kIdx] at h
  | x :: r, key, i, h => by
    simp only [kIdx] at h
    by_cases e : x = key
    · rw [if_pos e] at h
      cases h
      simp [e]
    · rw [if_neg e, Option.map_eq_some_iff] at h
      obtain ⟨j, hj, rfl⟩ := h
      have := kIdx_some hj
      have h2 : ¬ key = x := fun q => e q.symm
      simp [this.1, this.2, h2]
/-- A place as a number; -1: none. -/
def mI : Option Nat → Int
  | some i => (i : Int)
  | none => -1
theorem PlaceP.kIdx {ks : List ByteArray} {key : ByteArray} {n : Int} (h : PlaceP ks key n) : n = mI (kIdx ks key) := by
  refine h.uniq ?_
  cases hk : Proofs.Ytmdlcalnncncjaa.kIdx ks key with
  | none => exact .inl ⟨rfl, kIdx_none.1 hk⟩
  | some i => exact .inr ⟨i, rfl, (kIdx_some hk).1, (kIdx_some hk).2⟩
/-- Which one a step leads to. -/
def subI : Va → St → Option Nat
  | .mk k _ _ l ks _, s => if s.i = true then (if k = 4 ∧ s.a < (l.length : Int) then some s.a.toNat else none) else (if k = 5 then kIdx ks s.k else none)
def subV : Va → St → Option Va
  | .mk k n t l ks f, s => match subI (.mk k n t l ks f) s with
    | some i => if s.i = true then l[i]? else f[i]?
    | none => none
/-- Where a path leads to. -/
def goV : Va → List St → Option Va
  | a, [] => some a
  | a, s :: p => match subV a s with
    | some x => goV x p
    | none => none
theorem subI_lt {k n : Int} {t : ByteArray} {l : List Va} {ks : List ByteArray} {f : List Va} {s : St} {i : Nat} (hkl : ks.length = f.length) (hs : StR s) (h : subI (.mk k n t l ks f) s = some i) : (s.i = true → i < l.length ∧ k = 4) ∧ (s.i = false → i < f.length ∧ k = 5) := by
  simp only [subI] at h
  rcases hs with ⟨e, _, h0, _⟩ | ⟨e, _⟩
  · rw [if_pos e] at h
    split at h
    · rename_i hc
      cases h
      exact ⟨fun _ => ⟨by omega, hc.1⟩, (fun h => by rw [e] at h; cases h)⟩
    · cases h
  · rw [if_neg (by rw [e]; decide)] at h
    split at h
    · rename_i hc
      have := (List.getElem?_eq_some_iff.1 (kIdx_some h).1).1
      exact ⟨(fun h => by rw [e] at h; cases h), fun _ => ⟨by omega, hc⟩⟩
    · cases h
set_option maxHeartbeats 400000 in
theorem pm1_any (s : St) (k2 : ByteArray) (u : Hd) (w : World) (K : Nat) (ha : s.a = 0) (hi : s.i = false) (hK : At3 w ⟨K, 0, none⟩ s) :
    Calls Try.prog 138 #[.agg #[.string k2, .int .i64 u.k, .int .i64 u.n, .string u.s, .slice u.A u.la u.lc, .slice u.F u.lf u.fc], .pointer (some ⟨K, 0, none⟩)] w fun e w' => YesNo (k2 = s.k) w e w' := by
  obtain ⟨sk, sa, si⟩ := s
  simp only at ha hi ⊢
  subst ha hi
  obtain ⟨c0, c1, c2⟩ := hK
  simp only [Nat.zero_add] at c0 c1 c2
  have hKl : K < w.heap.size := World.block_lt_of_cell? w _ c0
  by_cases hkk : k2 = sk
  · subst hkk
    go_enter Try.func138, Try.ntmps138
    go_wp2_with fail
    go_ret
    exact YesNo.yes trivial ((Below.refl _ _).alloc (Nat.le_refl _) _)
  · have hkk' := bytes_ne (fun h => hkk h.symm)
    have HKK := Lib.hid hkk
    clear hkk
    go_enter Try.func138, Try.ntmps138
    go_wp2_with fail
    go_ret
    exact YesNo.no HKK.out ((Below.refl _ _).alloc (Nat.le_refl _) _)
set_option maxHeartbeats 400000 in
theorem pindex_any (ks : List ByteArray) (s : St) (F : Option Addr) (c K : Nat) (w : World) (hn : ks.length ≤ 1000) (hA : KeyRow w F ks) (ha : s.a = 0) (hi : s.i = false) (hK : At3 w ⟨K, 0, none⟩ s) :
    Calls Try.prog 103 #[.slice F ks.length c, .func (.func 138) #[] #[.pointer (some ⟨K, 0, none⟩)]] w fun e w' => PlaceR ks s.k w e w' := by
  have hKl : K < w.heap.size := World.block_lt_of_cell? w _ hK.1
  have HK := Lib.hid hK
  have HAI := Lib.hid (And.intro ha hi)
  clear hK ha hi
  go_enter Try.func103, Try.ntmps103
  go_wp2_with fail
  go_loopw [8] (fun iv wr => ∃ i : Nat, iv = .int .i64 i ∧ i ≤ ks.length ∧ s.k ∉ ks.take i ∧ Below w.heap.size w wr) (fun iv _ => ks.length - (intOf iv).toNat)
  case atStart => exact ⟨0, rfl, Nat.zero_le _, by simp, Below.refl _ _⟩
  case round =>
    obtain ⟨i, rfl, hi, hnk, hbel⟩ := hrel
    have HNK := Lib.hid hnk
    have HB := Lib.hid hbel
    clear hnk hbel
    by_cases hlt : i < ks.length
    · obtain ⟨k2, hk2⟩ : ∃ k2, ks[i]? = some k2 := ⟨ks[i], List.getElem?_eq_getElem hlt⟩
      obtain ⟨ad, u, rfl, hbl, hcell⟩ := hA i k2 hk2
      obtain ⟨q0, q1, q2, q3, q4, q5⟩ := hcell.below HB.out hbl
      have HK2 := Lib.hid hk2
      have HKc := Lib.hid (HK.out.below HB.out hKl)
      clear hcell hk2
      go_wp2_with fail
      refine (pm1_any s k2 u wr K HAI.out.1 HAI.out.2 HKc.out).mono ?_
      rintro e w1 ⟨r, rfl, hr, hb1⟩
      have HR := Lib.hid hr
      have HB1 := Lib.hid hb1
      clear hr hb1
      cases r
      · have hnk2 := Lib.hid (notin_step HNK.out HK2.out (fun h => by have := HR.out.2 h; cases this))
        go_wp2_with fail
        exact ⟨⟨i + 1, by go_num, by omega, hnk2.out, HB.out.trans (HB1.out.mono HB.out.size)⟩, by simp [intOf]; omega⟩
      · have he := HR.out.1 rfl
        have HE := Lib.hid (show ks[i]? = some s.k from he ▸ HK2.out)
        clear he
        go_wp2_with fail
        go_ret
        exact ⟨i, rfl, .inr ⟨i, rfl, HE.out, HNK.out⟩, HB.out.trans (HB1.out.mono HB.out.size)⟩
    · have hall : Hid (s.k ∉ ks) := by have := HNK.out; rw [List.take_of_length_le (by omega)] at this; exact this
      go_wp2_with fail
      go_ret
      exact ⟨-1, rfl, .inl ⟨rfl, hall.out⟩, HB.out⟩
end Go.Proofs.Ytmdlcalnncncjaa

/- Pairs in the order of keys; plain. -/
set_option linter.unusedVariables false
set_option linter.unusedSimpArgs false
namespace Go.Proofs.Ytmdlcalnncncjaa
open Go.RowKit
/-- A key's rank: its place among the keys, or behind all. -/
def rkK (keys : List ByteArray) (key : ByteArray) : Int := match kIdx keys key with
  | some i => (i : Int)
  | none => (keys.length : Int)
theorem kIdx_at {ks : List ByteArray} {key : ByteArray} {i : Nat} (hn : ks.Nodup) (h : ks[i]? = some key) : kIdx ks key = some i := by
  cases hk : kIdx ks key with
  | none => exact absurd (List.mem_of_getElem? h) (kIdx_none.1 hk)
  | some j =>
    have h2 := (kIdx_some hk).1
    have hi := (List.getElem?_eq_some_iff.1 h).1
    have hj := (List.getElem?_eq_some_iff.1 h2).1
    rw [(List.getElem?_inj hi hn).1 (h.trans h2.symm)]
theorem RankP.rk {keys : List ByteArray} {key : ByteArray} {n : Int} (hn : keys.Nodup) (h : RankP keys key n) : n = rkK keys key := by
  unfold rkK
  rcases h with ⟨i, rfl, hi⟩ | ⟨rfl, hi⟩
  · rw [kIdx_at hn hi]
  · rw [kIdx_none.2 hi]
theorem rk_in {keys : List ByteArray} {key : ByteArray} {i : Nat} (hn : keys.Nodup) (h : keys[i]? = some key) : rkK keys key = i := by unfold rkK; rw [kIdx_at hn h]
theorem rk_out {keys : List ByteArray} {key : ByteArray} (h : key ∉ keys) : rkK keys key = keys.length := by unfold rkK; rw [kIdx_none.2 h]
theorem rk_lt {keys : List ByteArray} {key : ByteArray} (h : key ∈ keys) : rkK keys key < keys.length := by
  unfold rkK
  cases hk : kIdx keys key with
  | none => exact absurd h (kIdx_none.1 hk)
  | some i => have := (List.getElem?_eq_some_iff.1 (kIdx_some hk).1).1; simp only; omega
/-- The pairs in the order of keys. -/
def ordE (keys : List ByteArray) (D : List Eo) : List Eo := keys.filterMap (fun key => D.find? fun e : Eo => decide (e.key = key)) ++ D.filter fun e : Eo => (kIdx keys e.key).isNone
/-- Ahead: by rank, by place. -/
def Ahd (keys : List ByteArray) (x y : Eo) : Prop := rkK keys x.key < rkK keys y.key ∨ (rkK keys x.key = rkK keys y.key ∧ x.ix < y.ix)
theorem sorted_one {keys : List ByteArray} : ∀ {A B : List Eo}, A.Perm B → A.Pairwise (Ahd keys) → B.Pairwise (Ahd keys) → A = B
  | [], B, h, _, _ => by rw [List.nil_perm.1 h]
  | x :: A, [], h, _, _ => by have := h.length_eq; simp at this
  | x :: A, y :: B, h, h1, h2 => by
    rw [List.pairwise_cons] at h1 h2
    have hx : x ∈ y :: B := h.mem_iff.1 (by simp)
    have hy : y ∈ x :: A := h.mem_iff.2 (by simp)
    have e : x = y := by
      rcases List.mem_cons.1 hx with e | hx
      · exact e
      · rcases List.mem_cons.1 hy with e | hy
        · exact e.symm
        · have a1 := h1.1 y hy
          have a2 := h2.1 x hx
          unfold Ahd at a1 a2
          omega
    subst e
    rw [sorted_one (List.Perm.cons_inv h) h1.2 h2.2]
theorem find_key {D : List Eo} {key : ByteArray} {e : Eo} (h : D.find? (fun e => decide (e.key = key)) = some e) : e ∈ D ∧ e.key = key := by
  have h2 := List.find?_some h
  exact ⟨List.mem_of_find?_eq_some h, by simpa using h2⟩
theorem find_of {D : List Eo} {e : Eo} (hn : (D.map Eo.key).Nodup) (he : e ∈ D) : D.find? (fun x => decide (x.key = e.key)) = some e := by
  induction D with
  | nil => simp at he
  | cons x r ih =>
    rw [List.map_cons, List.nodup_cons] at hn
    rcases List.mem_cons.1 he with rfl | he
    · simp
    · have hne : ¬ x.key = e.key := fun q => hn.1 (by rw [q]; exact List.mem_map_of_mem he)
      rw [List.find?_cons_of_neg (by simpa using hne)]
      exact ih hn.2 he
theorem ordE_pairs {keys : List ByteArray} {D : List Eo} (hk : keys.Nodup) (hi : D.Pairwise fun x y => x.ix < y.ix) : (ordE keys D).Pairwise (Ahd keys) := by
  unfold ordE
  rw [List.pairwise_append]
  refine ⟨?_, ?_, ?_⟩
  · rw [List.pairwise_filterMap, List.pairwise_iff_getElem]
    intro i j hi hj hij x hx y hy
    obtain ⟨-, e1⟩ := find_key hx
    obtain ⟨-, e2⟩ := find_key hy
    have r1 := rk_in hk (List.getElem?_eq_getElem hi)
    have r2 := rk_in hk (List.getElem?_eq_getElem hj)
    refine .inl ?_
    rw [e1, e2, r1, r2]
    omega
  · rw [List.pairwise_filter]
    refine hi.imp fun {x y} h => ?_
    intro hx hy
    rw [Option.isNone_iff_eq_none, kIdx_none] at hx hy
    exact .inr ⟨by rw [rk_out hx, rk_out hy], h⟩
  · intro x hx y hy
    obtain ⟨key, hkey, hf⟩ := List.mem_filterMap.1 hx
    obtain ⟨-, e1⟩ := find_key hf
    have h2 := (List.mem_filter.1 hy).2
    rw [Option.isNone_iff_eq_none, kIdx_none] at h2
    refine .inl ?_
    rw [e1, rk_out h2]
    exact rk_lt hkey
theorem ahd_nodup {keys : List ByteArray} {A : List Eo} (h : A.Pairwise (Ahd keys)) : A.Nodup := h.imp fun {x y} q e => by
  subst e
  unfold Ahd at q
  omega
theorem ordE_perm {keys : List ByteArray} {D : List Eo} (hk : keys.Nodup) (hn : (D.map Eo.key).Nodup) (hi : D.Pairwise fun x y => x.ix < y.ix) : (ordE keys D).Perm D := by
  refine (List.perm_ext_iff_of_nodup (ahd_nodup (ordE_pairs hk hi)) ?_).2 fun e => ⟨fun h => ?_, fun h => ?_⟩
  · exact hi.imp fun {x y} q e => by subst e; exact Nat.lt_irrefl _ q
  · unfold ordE at h
    rcases List.mem_append.1 h with h | h
    · obtain ⟨key, -, hf⟩ := List.mem_filterMap.1 h
      exact (find_key hf).1
    · exact (List.mem_filter.1 h).1
  · unfold ordE
    by_cases q : e.key ∈ keys
    · exact List.mem_append_left _ (List.mem_filterMap.2 ⟨e.key, q, find_of hn h⟩)
    · exact List.mem_append_right _ (List.mem_filter.2 ⟨h, by rw [Option.isNone_iff_eq_none, kIdx_none]; exact q⟩)
/-- What a stable sort by rank leaves is that order. -/
theorem sorted_ordE {keys : List ByteArray} {d d' : Array Eo} (hk : keys.Nodup) (hn : (d.toList.map Eo.key).Nodup) (hi : ∀ i j, i < j → j < d.size → d[i]!.ix < d[j]!.ix) (hp : Go.Sort.PermIn 0 d.size d d') (hs : St.Srt (rkE (rkK keys)) Eo.ix d' 0 d.size) : d'.toList = ordE keys d.toList := by
  have hpl : d'.toList.Perm d.toList := by
    obtain ⟨h1, _, h3⟩ := hp
    rw [Array.extract_size] at h3
    rw [← h1, Array.extract_size] at h3
    exact h3
  have hsz : d'.size = d.size := hp.1
  have hid : d.toList.Pairwise fun x y => x.ix < y.ix := by
    rw [List.pairwise_iff_getElem]
    intro i j hi1 hj1 hij
    have := hi i j hij (by simpa using hj1)
    rw [getElem!_pos d i (by simpa using hi1), getElem!_pos d j (by simpa using hj1)] at this
    simpa using this
  refine sorted_one (keys := keys) (hpl.trans (ordE_perm hk hn hid).symm) ?_ (ordE_pairs hk hid)
  have hix : (d'.toList.map Eo.ix).Nodup := by
    rw [(hpl.map Eo.ix).nodup_iff, List.Nodup, List.pairwise_map]
    exact hid.imp fun {x y} q => Nat.ne_of_lt q
  rw [List.pairwise_iff_getElem]
  intro i j hi1 hj1 hij
  have hi2 : i < d'.size := by simpa using hi1
  have hj2 : j < d'.size := by simpa using hj1
  have h1 := hs i j (Nat.zero_le _) hij (by omega)
  rw [getElem!_pos d' i hi2, getElem!_pos d' j hj2] at h1
  have hne : d'[i].ix ≠ d'[j].ix := by
    rw [List.Nodup, List.pairwise_map, List.pairwise_iff_getElem] at hix
    have := hix i j hi1 hj1 hij
    simpa using this
  show Ahd keys d'.toList[i] d'.toList[j]
  rw [Array.getElem_toList, Array.getElem_toList]
  unfold St.le rkE at h1
  unfold Ahd
  omega
end Go.Proofs.Ytmdlcalnncncjaa

/- How tree.With changes what it made. -/
set_option linter.unusedVariables false
set_option linter.unusedSimpArgs false
namespace Go.Proofs.Ytmdlcalnncncjaa
open Go.RowKit Classical
theorem add0 (g n : Nat) : (⟨g, 0, none⟩ : Addr).add n = ⟨g, n, none⟩ := by
  unfold Addr.add
  by_cases h : n = 0 <;> simp [h]
theorem fW_set {ks : List ByteArray} {f : List Va} {key : ByteArray} {x : Va} {i : Nat} (hnd : ks.Nodup) (hk : ks[i]? = some key) (hl : ks.length = f.length) : fW ks f key x = f.set i x ∧ ksW ks key = ks := by
  have hin : key ∈ ks := List.mem_of_getElem? hk
  have hik : i < ks.length := (List.getElem?_eq_some_iff.1 hk).1
  refine ⟨?_, by unfold ksW; rw [if_pos hin]⟩
  unfold fW
  rw [if_pos hin, List.append_nil]
  apply List.ext_getElem?
  intro j
  rw [List.getElem?_zipWith, List.getElem?_set]
  by_cases hj : j < ks.length
  · have e1 : ks[j]? = some ks[j] := List.getElem?_eq_getElem hj
    have e2 : f[j]? = some (f[j]'(by omega)) := List.getElem?_eq_getElem (by omega)
    rw [e1, e2]
    by_cases e : i = j
    · subst e
      rw [e1] at hk
      cases hk
      simp
      omega
    · have hne : ¬ ks[j] = key := fun h => e (((List.getElem?_inj (i := i) (j := j) hik hnd).1 (by rw [hk, e1, h])))
      simp [hne, e]
  · rw [List.getElem?_eq_none (by omega), List.getElem?_eq_none (by omega)]
    by_cases e : i = j
    · omega
    · simp [e]
theorem fW_app {ks : List ByteArray} {f : List Va} {key : ByteArray} {x : Va} (h : key ∉ ks) (hl : ks.length = f.length) : fW ks f key x = f ++ [x] ∧ ksW ks key = ks ++ [key] := by
  refine ⟨?_, by unfold ksW; rw [if_neg h]⟩
  unfold fW
  rw [if_neg h]
  congr 1
  apply List.ext_getElem?
  intro j
  rw [List.getElem?_zipWith]
  by_cases hj : j < ks.length
  · have e1 : ks[j]? = some ks[j] := List.getElem?_eq_getElem hj
    have e2 : f[j]? = some (f[j]'(by omega)) := List.getElem?_eq_getElem (by omega)
    rw [e1, e2]
    have hne : ¬ ks[j] = key := fun e => h (e ▸ List.getElem_mem hj)
    simp [hne]
  · rw [List.getElem?_eq_none (by omega), List.getElem?_eq_none (by omega)]
/-- The five cells of a pair's value, written. -/
abbrev put5 (w : World) (g o : Nat) (u : Hd) : World := ((((w.setCell ⟨g, o + 1, none⟩ (.int .i64 u.k)).setCell ⟨g, o + 2, none⟩ (.int .i64 u.n)).setCell ⟨g, o + 3, none⟩ (.string u.s)).setCell ⟨g, o + 4, none⟩ (.slice u.A u.la u.lc)).setCell ⟨g, o + 5, none⟩ (.slice u.F u.lf u.fc)
theorem put5_blk {w : World} {g o : Nat} {u : Hd} {b : Nat} (h : b ≠ g) : (put5 w g o u).heap[b]? = w.heap[b]? := by
  unfold put5
  rw [Below.heap_setCell _ _ _ _ h, Below.heap_setCell _ _ _ _ h, Below.heap_setCell _ _ _ _ h, Below.heap_setCell _ _ _ _ h, Below.heap_setCell _ _ _ _ h]
theorem put5_other {w : World} {g o p : Nat} {u : Hd} (h : p ≤ o ∨ o + 5 < p) : (put5 w g o u).cell? ⟨g, p, none⟩ = w.cell? ⟨g, p, none⟩ := by
  have hne : ∀ q, 1 ≤ q → q ≤ 5 → (⟨g, o + q, none⟩ : Addr) ≠ ⟨g, p, none⟩ := fun q h1 h2 e => by
    injection e with _ e2
    omega
  unfold put5
  rw [World.cell?_setCell_other _ _ _ _ (hne 5 (by omega) (by omega)), World.cell?_setCell_other _ _ _ _ (hne 4 (by omega) (by omega)), World.cell?_setCell_other _ _ _ _ (hne 3 (by omega) (by omega)), World.cell?_setCell_other _ _ _ _ (hne 2 (by omega) (by omega)), World.cell?_setCell_other _ _ _ _ (hne 1 (by omega) (by omega))]
theorem put5_same {w : World} {g o : Nat} {u : Hd} (hs : ∀ j, 1 ≤ j → j ≤ 5 → (w.cell? ⟨g, o + j, none⟩).isSome = true) (j : Nat) (c : Value) (hc : u.cells[j]? = some c) : (put5 w g o u).cell? ⟨g, o + 1 + j, none⟩ = some c := by
  have h1 := Option.isSome_iff_exists.1 (hs 1 (by omega) (by omega))
  have h2 := Option.isSome_iff_exists.1 (hs 2 (by omega) (by omega))
  have h3 := Option.isSome_iff_exists.1 (hs 3 (by omega) (by omega))
  have h4 := Option.isSome_iff_exists.1 (hs 4 (by omega) (by omega))
  have h5 := Option.isSome_iff_exists.1 (hs 5 (by omega) (by omega))
  obtain ⟨v1, h1⟩ := h1
  obtain ⟨v2, h2⟩ := h2
  obtain ⟨v3, h3⟩ := h3
  obtain ⟨v4, h4⟩ := h4
  obtain ⟨v5, h5⟩ := h5
  have hj : j < 5 := (List.getElem?_eq_some_iff.1 hc).1
  unfold put5
  match j, hj with
  | 0, _ =>
    simp only [Hd.cells, List.getElem?_cons_zero, Option.some.injEq] at hc
    subst hc
    rw [World.cell?_setCell_other _ _ _ _ (by simp), World.cell?_setCell_other _ _ _ _ (by simp), World.cell?_setCell_other _ _ _ _ (by simp), World.cell?_setCell_other _ _ _ _ (by simp)]
    exact World.cell?_setCell_same _ _ _ h1
  | 1, _ =>
    simp only [Hd.cells, List.getElem?_cons_succ, List.getElem?_cons_zero, Option.some.injEq] at hc
    subst hc
    rw [World.cell?_setCell_other _ _ _ _ (by simp), World.cell?_setCell_other _ _ _ _ (by simp), World.cell?_setCell_other _ _ _ _ (by simp)]
    exact World.cell?_setCell_same _ _ _ (by rw [World.cell?_setCell_other _ _ _ _ (by simp)]; exact h2)
  | 2, _ =>
    simp only [Hd.cells, List.getElem?_cons_succ, List.getElem?_cons_zero, Option.some.injEq] at hc
    subst hc
    rw [World.cell?_setCell_other _ _ _ _ (by simp), World.cell?_setCell_other _ _ _ _ (by simp)]
    exact World.cell?_setCell_same _ _ _ (by rw [World.cell?_setCell_other _ _ _ _ (by simp), World.cell?_setCell_other _ _ _ _ (by simp)]; exact h3)
  | 3, _ =>
    simp only [Hd.cells, List.getElem?_cons_succ, List.getElem?_cons_zero, Option.some.injEq] at hc
    subst hc
    rw [World.cell?_setCell_other _ _ _ _ (by simp)]
    exact World.cell?_setCell_same _ _ _ (by rw [World.cell?_setCell_other _ _ _ _ (by simp), World.cell?_setCell_other _ _ _ _ (by simp), World.cell?_setCell_other _ _ _ _ (by simp)]; exact h4)
  | 4, _ =>
    simp only [Hd.cells, List.getElem?_cons_succ, List.getElem?_cons_zero, Option.some.injEq] at hc
    subst hc
    exact World.cell?_setCell_same _ _ _ (by rw [World.cell?_setCell_other _ _ _ _ (by simp), World.cell?_setCell_other _ _ _ _ (by simp), World.cell?_setCell_other _ _ _ _ (by simp), World.cell?_setCell_other _ _ _ _ (by simp)]; exact h5)
/-- What is known of an own object's row. -/
theorem own_row {w : World} {k n : Int} {s : ByteArray} {l : List Va} {ks : List ByteArray} {f : List Va} {T : Nat → Prop} {h : Hd} (H : Own w (.mk k n s l ks f) T h) (hf : 0 < f.length) : ∃ g cap cur, h.F = some ⟨g, 0, none⟩ ∧ T g ∧ w.heap[g]? = some (.cells cur 36 (0, 0)) ∧ f.length ≤ cap ∧ cur.size = cap * 6 := by
  cases H with
  | mk us vs SL SF hd ul vl rl rf hl hF bl bf sl sf dl df dd =>
    rcases rf.2 with ⟨_, h0⟩ | ⟨g, cap, cur, hv, _, hh, hle, _, hsz, _⟩
    · omega
    · injection hv with e1 e2 e3
      refine ⟨g, cap, cur, e1, (bf g (by rw [e1]; rfl)).1, hh, hle, hsz⟩
theorem lies_put {w4 w7 : World} {k n : Int} {s : ByteArray} {l : List Va} {ks : List ByteArray} {f : List Va} {T T7 : Nat → Prop} {h : Hd} {x : Va} {u : Hd} {g i : Nat} {S : Nat → Prop} (hS : ∀ b, T b → S b) (hS7 : ∀ b, T7 b → S b) (H : Own w4 (.mk k n s l ks f) T h) (hT : ∀ b, T b → w7.heap[b]? = w4.heap[b]?) (hi : i < f.length) (hx : Own w7 x T7 u) (hT7 : ∀ b, T7 b → ¬ T b) (hg : h.F = some ⟨g, 0, none⟩) :
    Lies (put5 w7 g (i * 6) u) S (.mk k n s l ks (f.set i x)) h := by
  obtain ⟨g', cap, cur, hg', hTg, hh, hcap, hsz⟩ := own_row H (by omega)
  obtain rfl : g = g' := by rw [hg] at hg'; injection hg' with e; injection e
  have hcells : ∀ j, 1 ≤ j → j ≤ 5 → (w7.cell? ⟨g, i * 6 + j, none⟩).isSome = true := fun j h1 h2 => by
    have : w7.heap[g]? = some (.cells cur 36 (0, 0)) := (hT g hTg).trans hh
    rw [cell_of_row w7 g _ cur 36 (0, 0) this]
    have : i * 6 + j < cur.size := by rw [hsz]; omega
    simp [this]
  cases H with
  | mk us vs SL SF hd ul vl rl rf hl hF bl bf sl sf dl df dd =>
    have hgo : (Value.slice h.F h.lf h.fc).ownBlock = some g := by rw [hg]; rfl
    have bg := bf g hgo
    have blk : ∀ b, T b → b ≠ g → (put5 w7 g (i * 6) u).heap[b]? = w4.heap[b]? := fun b h1 h2 => (put5_blk h2).trans (hT b h1)
    unfold Lies
    refine ⟨⟨hd.1.1, hd.1.2.1, hd.1.2.2.1, hd.1.2.2.2.1, by rw [List.length_set]; exact hd.1.2.2.2.2.1, by rw [List.length_set]; exact hd.1.2.2.2.2.2⟩, ⟨hd.2.1, hd.2.2.1, hd.2.2.2.1, hd.2.2.2.2.1, hd.2.2.2.2.2.1, by rw [List.length_set]; exact hd.2.2.2.2.2.2.1, hd.2.2.2.2.2.2.2.1, by rw [List.length_set]; exact hd.2.2.2.2.2.2.2.2⟩, ⟨us, ?_, LiesL_mk ul fun j y v hy hv => ?_⟩, ⟨vs.set i u, ?_, LiesL_mk (by simp [vl]) fun j y v hy hv => ?_⟩⟩
    · have e := hd.1.2.2.2.1
      rw [← e] at rl
      exact row_of_own Hd.cells us cells_len (own_block rl fun b hb => blk b (bl b hb).1 (fun e2 => bg.2.2.2 (e2 ▸ hb))) (fun b hb => hS b (bl b hb).1) (.inr (by decide))
    · exact Lies.keep (fun _ _ _ => rfl) (fun b hb _ => hS b (sl j b hb)) _ _ (Own.lies _ _ _ (Own.keep y _ v (hl j y v hy hv) fun b hb => blk b (sl j b hb) (fun e2 => bg.2.1 j (e2 ▸ hb))))
    · have e := hd.1.2.2.2.2.1
      rw [← e] at rf
      have r0 := row_of_own (S := fun _ => True) pcells (ks.zip vs) pcells_len rf (fun _ _ => trivial) (.inr (by decide))
      intro hp
      have hzl : (ks.zip (vs.set i u)).length = (ks.zip vs).length := by rw [List.length_zip, List.length_zip, List.length_set]
      obtain ⟨ad, e1, _, hc⟩ := r0 (by rw [List.length_map] at hp ⊢; omega)
      obtain rfl : ad = ⟨g, 0, none⟩ := by rw [hg] at e1; injection e1 with e1; exact e1.symm
      refine ⟨⟨g, 0, none⟩, hg, hS g hTg, fun j c hj jj v hv => ?_⟩
      rw [List.getElem?_map, Option.map_eq_some_iff] at hj
      obtain ⟨⟨ky, hh2⟩, hz, rfl⟩ := hj
      obtain ⟨hk2, hv2⟩ := List.getElem?_zip_eq_some.1 hz
      rw [add0]
      have hjj : jj < 6 := (List.getElem?_eq_some_iff.1 hv).1
      have hjl : j < vs.length := by have := (List.getElem?_eq_some_iff.1 hv2).1; rwa [List.length_set] at this
      have old : ∀ c', (pcells (ky, vs[j]))[jj]? = some c' → w7.cell? ⟨g, j * 6 + jj, none⟩ = some c' := fun c' hc' => by
        have := hc j (pcells (ky, vs[j])) (by rw [List.getElem?_map, show (ks.zip vs)[j]? = some (ky, vs[j]) from List.getElem?_zip_eq_some.2 ⟨hk2, List.getElem?_eq_getElem hjl⟩]; rfl) jj c' hc'
        rw [add0] at this
        rw [World.cell?_of_block (a := ⟨g, j * 6 + jj, none⟩) (hT g hTg)]
        exact this
      by_cases ej : j = i
      · subst ej
        rw [List.getElem?_set_self (by omega)] at hv2
        cases hv2
        cases jj with
        | zero =>
          rw [put5_other (by omega)]
          exact old v hv
        | succ jj =>
          have := put5_same hcells jj v hv
          rwa [show j * 6 + (jj + 1) = j * 6 + 1 + jj by omega]
      · rw [List.getElem?_set_ne (by omega), List.getElem?_eq_getElem hjl] at hv2
        cases hv2
        rw [put5_other (by omega)]
        exact old v hv
    · by_cases ej : j = i
      · subst ej
        rw [List.getElem?_set_self (by omega)] at hy hv
        cases hy
        cases hv
        exact Lies.keep (fun _ _ _ => rfl) (fun b hb _ => hS7 b hb) _ _ (Own.lies _ _ _ (Own.keep x _ u hx fun b hb => put5_blk (fun e2 => hT7 b hb (e2 ▸ hTg))))
      · rw [List.getElem?_set_ne (by omega)] at hy hv
        exact Lies.keep (fun _ _ _ => rfl) (fun b hb _ => hS b (sf j b hb)) _ _ (Own.lies _ _ _ (Own.keep y _ v (hF j y v hy hv) fun b hb => blk b (sf j b hb) (fun e2 => bg.2.2.1 j (e2 ▸ hb))))
theorem own_app {w4 : World} {k n : Int} {s : ByteArray} {l : List Va} {ks : List ByteArray} {f : List Va} {T : Nat → Prop} {h : Hd} (H : Own w4 (.mk k n s l ks f) T h) :
    ∃ vs : List Hd, w4.ownsRow 0 36 6 (.slice h.F f.length h.fc) f.length ((ks.zip vs).flatMap pcells) ∧ (∀ g, (Value.slice h.F f.length h.fc).ownBlock = some g → T g) ∧
      ∀ (w7 w8 wz : World) (o : Obj) (g cap base Wb : Nat) (u : Hd) (x : Va) (T7 : Nat → Prop) (key : ByteArray) (S : Nat → Prop), (∀ b, T b → S b) → (∀ b, T7 b → S b) → S g → (∀ b, T b → w7.heap[b]? = w4.heap[b]? ∧ b < w7.heap.size) → Own w7 x T7 u → (∀ b, T7 b → ¬ T b ∧ b < w7.heap.size) →
        w8.ownsRow base 36 6 (.slice (some ⟨g, 0, none⟩) (f.length + 1) cap) (f.length + 1) ((ks.zip vs).flatMap pcells ++ pcells (key, u)) → (w7.alloc o).grownBy w8 (Value.slice h.F f.length h.fc).ownBlock →
        (∀ b, b ≠ Wb → wz.heap[b]? = w8.heap[b]?) → ¬ T Wb → ¬ T7 Wb → g ≠ Wb → ((Value.slice h.F f.length h.fc).ownBlock = some g ∨ g = w7.heap.size + 1) → key.size ≤ maxLen → f.length + 1 ≤ maxLen →
        Lies wz S (.mk k n s l (ks ++ [key]) (f ++ [x])) ⟨h.k, h.n, h.s, h.A, h.la, h.lc, some ⟨g, 0, none⟩, f.length + 1, cap⟩ := by
  cases H with
  | mk us vs SL SF hd ul vl rl rf hl hF bl bf sl sf dl df dd =>
    have elf := hd.1.2.2.2.2.1
    rw [elf] at rf
    have bf' : ∀ g, (Value.slice h.F f.length h.fc).ownBlock = some g → T g ∧ (∀ i, ¬ SL i g) ∧ (∀ i, ¬ SF i g) ∧ (Value.slice h.A h.la h.lc).ownBlock ≠ some g := fun g hg => bf g (by rw [elf]; exact hg)
    refine ⟨vs, rf, fun g hg => (bf' g hg).1, ?_⟩
    intro w7 w8 wz o g cap base Wb u x T7 key S hS hS7 hSg hT hx hT7 hown8 hgrow hwz hTW hT7W hgW hat hks hfm
    have row7 : ∀ b, (Value.slice h.F f.length h.fc).ownBlock = some b → T b := fun b hb => (bf' b hb).1
    have blk : ∀ b, T b → (Value.slice h.F f.length h.fc).ownBlock ≠ some b → wz.heap[b]? = w4.heap[b]? := fun b h1 h2 => by
      rw [hwz b (fun e => hTW (e ▸ h1)), hgrow.block b (by have := (hT b h1).2; simp; omega) (fun e => h2 e.symm), Below.heap_alloc _ _ _ (hT b h1).2]
      exact (hT b h1).1
    have blk7 : ∀ b, T7 b → wz.heap[b]? = w7.heap[b]? := fun b h1 => by
      rw [hwz b (fun e => hT7W (e ▸ h1)), hgrow.block b (by have := (hT7 b h1).2; simp; omega) (fun e => (hT7 b h1).1 (row7 b e.symm)), Below.heap_alloc _ _ _ (hT7 b h1).2]
    have hzl : ks.length = vs.length := by rw [vl]; exact hd.1.2.2.2.2.2
    unfold Lies
    have capb : f.length + 1 ≤ cap := by
      rcases hown8.2 with ⟨e, h0⟩ | ⟨g2, cap2, cur, hv, _, _, hle, _⟩
      · cases e
      · injection hv with _ _ h3; omega
    refine ⟨⟨hd.1.1, hd.1.2.1, hd.1.2.2.1, hd.1.2.2.2.1, by simp, by simp; exact hd.1.2.2.2.2.2⟩, ⟨hd.2.1, hd.2.2.1, hd.2.2.2.1, ?_, hd.2.2.2.2.2.1, by simpa using hfm, hd.2.2.2.2.2.2.2.1, by simpa using capb⟩, ⟨us, ?_, LiesL_mk ul fun j y v hy hv => ?_⟩, ⟨vs ++ [u], ?_, LiesL_mk (by simp [vl]) fun j y v hy hv => ?_⟩⟩
    · intro y hy
      rcases List.mem_append.1 hy with hy | hy
      · exact hd.2.2.2.2.1 y hy
      · simp at hy; subst hy; exact hks
    · have e := hd.1.2.2.2.1
      rw [← e] at rl
      exact row_of_own Hd.cells us cells_len (own_block rl fun b hb => blk b (bl b hb).1 (fun e2 => (bf' b e2).2.2.2 hb)) (fun b hb => hS b (bl b hb).1) (.inr (by decide))
    · exact Lies.keep (fun _ _ _ => rfl) (fun b hb _ => hS b (sl j b hb)) _ _ (Own.lies _ _ _ (Own.keep y _ v (hl j y v hy hv) fun b hb => blk b (sl j b hb) (fun e2 => (bf' b e2).2.1 j hb)))
    · rw [List.zip_append hzl]
      have own9 : wz.ownsRow base 36 6 (.slice (some ⟨g, 0, none⟩) (f.length + 1) cap) (f.length + 1) ((ks.zip vs ++ [key].zip [u]).flatMap pcells) := by
        refine own_block ?_ fun b hb => hwz b ?_
        · simpa using hown8
        · simp only [Value.ownBlock, Option.some.injEq] at hb
          omega
      exact row_of_own pcells _ pcells_len own9 (fun b hb => by simp only [Value.ownBlock, Option.some.injEq] at hb; exact hb ▸ hSg) (.inr (by decide))
    · by_cases ej : j < f.length
      · rw [List.getElem?_append_left ej] at hy
        rw [List.getElem?_append_left (by omega)] at hv
        exact Lies.keep (fun _ _ _ => rfl) (fun b hb _ => hS b (sf j b hb)) _ _ (Own.lies _ _ _ (Own.keep y _ v (hF j y v hy hv) fun b hb => blk b (sf j b hb) (fun e2 => (bf' b e2).2.2.1 j hb)))
      · have hj := (List.getElem?_eq_some_iff.1 hy).1
        simp at hj
        obtain rfl : j = f.length := by omega
        rw [List.getElem?_append_right (Nat.le_refl _)] at hy
        rw [List.getElem?_append_right (by omega), vl] at hv
        simp at hy hv
        subst hy hv
        exact Lies.keep (fun _ _ _ => rfl) (fun b hb _ => hS7 b hb) _ _ (Own.lies _ _ _ (Own.keep x _ u hx blk7))
end Go.Proofs.Ytmdlcalnncncjaa

/- tree.With, walked. -/
set_option linter.unusedVariables false
set_option linter.unusedSimpArgs false
namespace Go.Proofs.Ytmdlcalnncncjaa
open Go.RowKit Classical
theorem cntL_set (x : Va) : ∀ (l : List Va) (i : Nat), cntL (l.set i x) ≤ cntL l + x.cnt
  | [], _ => by simp [cntL]
  | y :: r, 0 => by simp only [List.set_cons_zero, cntL]; omega
  | y :: r, i + 1 => by
    have := cntL_set x r i
    simp only [List.set_cons_succ, cntL]
    omega
theorem ShL_set {x : Va} (hx : x.Sh) : ∀ (l : List Va) (i : Nat), ShL l → ShL (l.set i x)
  | [], _, h => by simp [ShL]
  | y :: r, 0, h => by simp only [List.set_cons_zero, ShL] at h ⊢; exact ⟨hx, h.2⟩
  | y :: r, i + 1, h => by
    simp only [List.set_cons_succ, ShL] at h ⊢
    exact ⟨h.1, ShL_set hx r i h.2⟩
theorem sh_put {k n : Int} {s : ByteArray} {l : List Va} {ks : List ByteArray} {f : List Va} {x : Va} (h : (Va.mk k n s l ks f).Sh) (hx : x.Sh) (i : Nat) : (Va.mk k n s l ks (f.set i x)).Sh ∧ (Va.mk k n s l ks (f.set i x)).cnt ≤ (Va.mk k n s l ks f).cnt + x.cnt := by
  simp only [Va.Sh, Va.cnt] at h ⊢
  have := cntL_set x f i
  exact ⟨⟨h.1, h.2.1, h.2.2.1, ShL_set hx f i h.2.2.2⟩, by omega⟩
theorem sh_app {k n : Int} {s : ByteArray} {l : List Va} {ks : List ByteArray} {f : List Va} {x : Va} {key : ByteArray} (h : (Va.mk k n s l ks f).Sh) (hx : x.Sh) (hk : key.size ≤ 500) : (Va.mk k n s l (ks ++ [key]) (f ++ [x])).Sh ∧ (Va.mk k n s l (ks ++ [key]) (f ++ [x])).cnt ≤ (Va.mk k n s l ks f).cnt + x.cnt := by
  simp only [Va.Sh, Va.cnt] at h ⊢
  refine ⟨⟨h.1, h.2.1, ?_, (ShL_app _ _).2 ⟨h.2.2.2, by simp [ShL, hx]⟩⟩, ?_⟩
  · intro y hy
    rcases List.mem_append.1 hy with hy | hy
    · exact h.2.2.1 y hy
    · simp at hy; subst hy; exact hk
  · rw [cntL_app]
    simp only [cntL]
    omega
/-- The three blocks of a call of With. -/
structure TB (w : World) (h hx : Hd) (wr : World) : Prop where
  bel : Below w.heap.size w wr
  bv : Bx wr w.heap.size h
  bx : Bx wr (w.heap.size + 1) hx
  res : wr.rowIs (w.heap.size + 2) 25 5 zeroRes
  sz : w.heap.size + 3 ≤ wr.heap.size
theorem TB.go {w wr wr' : World} {h hx : Hd} {B : Nat} (H : TB w h hx wr) (hb : Below B wr wr') (hB : w.heap.size + 3 ≤ B) : TB w h hx wr' :=
  ⟨H.bel.trans (hb.mono (by omega)), H.bv.go hb (by omega), H.bx.go hb (by omega), rowIs_below H.res hb (by omega), Nat.le_trans H.sz hb.size⟩
theorem TB.start (w : World) (h hx : Hd) : TB w h hx (((w.alloc (Obj.cells #[.int .i64 h.k, .int .i64 h.n, .string h.s, .slice h.A h.la h.lc, .slice h.F h.lf h.fc] 25)).alloc (Obj.cells #[.int .i64 hx.k, .int .i64 hx.n, .string hx.s, .slice hx.A hx.la hx.lc, .slice hx.F hx.lf hx.fc] 25)).alloc (Obj.cells #[.int .i64 0, .int .i64 0, .string { data := #[] }, .slice none 0 0, .slice none 0 0] 25)) := by
  refine ⟨((one_alloc w _).alloc (by simp) _).alloc (by simp; omega) _, ((Bx.start w h 25).alloc _).alloc _, (Bx.start' _ hx 25 (by simp)).alloc _, hdAt_row (h := zeroHd) ?_, by simp⟩
  have h9 := heap_alloc_new ((w.alloc (Obj.cells #[.int .i64 h.k, .int .i64 h.n, .string h.s, .slice h.A h.la h.lc, .slice h.F h.lf h.fc] 25)).alloc (Obj.cells #[.int .i64 hx.k, .int .i64 hx.n, .string hx.s, .slice hx.A hx.la hx.lc, .slice hx.F hx.lf hx.fc] 25)) (Obj.cells #[.int .i64 0, .int .i64 0, .string { data := #[] }, .slice none 0 0, .slice none 0 0] 25)
  rwa [World.size_alloc, World.size_alloc] at h9
/-- What With answers. -/
def WithQ (arg : Prop) (a' : Va) (w : World) (e : Ending) (w' : World) : Prop := ∃ (b : Va) (h' : Hd) (er : Int), e = .returned (.tuple #[.agg #[.int .i64 h'.k, .int .i64 h'.n, .string h'.s, .slice h'.A h'.la h'.lc, .slice h'.F h'.lf h'.fc], .int .i64 er]) ∧ Lies w' (fun _ => True) b h' ∧ Below w.heap.size w w' ∧
  (¬ arg → er = 1 ∧ b = zeroVa) ∧ (arg → ¬ a'.R 12 → er = 5 ∧ b = zeroVa) ∧ (arg → a'.R 12 → er = 0 ∧ b = a')
/-- The load of w.F in the drawn statement, under a name. -/
def ldW : Op := Op.load 23 (Operand.tmp 38)
/-- What the drawn statements load. -/
def SX5 (X : Nat) (u : Hd) (w : World) : Prop := w.cell? ⟨X, 0, none⟩ = some (.int .i64 u.k) ∧ w.cell? ⟨X, 1, none⟩ = some (.int .i64 u.n) ∧ w.cell? ⟨X, 2, none⟩ = some (.string u.s) ∧ w.cell? ⟨X, 3, none⟩ = some (.slice u.A u.la u.lc) ∧ w.cell? ⟨X, 4, none⟩ = some (.slice u.F u.lf u.fc)
theorem SX5.imp {X : Nat} {u : Hd} {w w' : World} (h : SX5 X u w) (hX : w'.heap[X]? = w.heap[X]?) : SX5 X u w' :=
  ⟨(World.cell?_of_block (a := ⟨X, 0, none⟩) hX).trans h.1, (World.cell?_of_block (a := ⟨X, 1, none⟩) hX).trans h.2.1, (World.cell?_of_block (a := ⟨X, 2, none⟩) hX).trans h.2.2.1, (World.cell?_of_block (a := ⟨X, 3, none⟩) hX).trans h.2.2.2.1, (World.cell?_of_block (a := ⟨X, 4, none⟩) hX).trans h.2.2.2.2⟩
theorem SX5.lt {X : Nat} {u : Hd} {w : World} (h : SX5 X u w) : X < w.heap.size := World.block_lt_of_cell? w _ h.1
theorem SX5.bel {X : Nat} {u : Hd} {w w' : World} (h : SX5 X u w) (hb : Below w.heap.size w w') : SX5 X u w' := h.imp (hb.block _ h.lt)
theorem SX5.alloc {X : Nat} {u : Hd} {w : World} (h : SX5 X u w) (o : Obj) : SX5 X u (w.alloc o) := h.imp (Below.heap_alloc _ _ _ h.lt)
theorem SX5.grown {X : Nat} {u : Hd} {w w' : World} {row : Option Nat} (h : SX5 X u w) (hg : w.grownBy w' row) (h2 : some X ≠ row) : SX5 X u w' := h.imp (hg.block _ h.lt h2)
theorem SX5.set {X W o : Nat} {u : Hd} {w : World} (h : SX5 X u w) (h2 : X ≠ W) (v : Value) : SX5 X u (w.setCell ⟨W, o, none⟩ v) := h.imp (Below.heap_setCell _ _ _ _ h2)
theorem cellWF {w w' : World} {W : Nat} {v : Value} (h : w.cell? ⟨W, 4, none⟩ = some v) (hb : w'.heap[W]? = w.heap[W]?) : w'.cell? ⟨W, 4, none⟩ = some v := (World.cell?_of_block (a := ⟨W, 4, none⟩) hb).trans h
theorem row_facts {w7 : World} {g i cap : Nat} {cur : Array Value} (hh : w7.heap[g]? = some (.cells cur 36 (0, 0))) (hsz : cur.size = cap * 6) (hi : i < cap) : ∀ j, j < 6 → ∃ v, w7.cell? ⟨g, i * 6 + j, none⟩ = some v := fun j hj => by
  rw [cell_of_row w7 g _ cur 36 (0, 0) hh]
  have : i * 6 + j < cur.size := by rw [hsz]; omega
  exact ⟨cur[i * 6 + j], by simp [this]⟩
theorem row_frozen {w7 : World} {g p : Nat} {cur : Array Value} (hh : w7.heap[g]? = some (.cells cur 36 (0, 0))) : w7.frozen? ⟨g, p, none⟩ = false := by simp [World.frozen?, hh]
set_option maxHeartbeats 2000000 in
set_option maxRecDepth 100000 in
theorem with_prog (k n : Int) (s : ByteArray) (l : List Va) (ks : List ByteArray) (f : List Va) (x : Va) (S S' : Nat → Prop) (h hx : Hd) (key : ByteArray) (w : World) (H : Lies w S (.mk k n s l ks f) h) (HX : Lies w S' x hx) (hsh : (Va.mk k n s l ks f).Sh) (hcn : (Va.mk k n s l ks f).cnt ≤ 60) (hshx : x.Sh) (hcnx : x.cnt ≤ 60) (hk5 : key.size ≤ 500) :
    Calls Try.prog 31 #[h.val, .string key, hx.val] w fun e w' => WithQ (h.k = 5 ∧ (Va.mk k n s l ks f).R 12 ∧ rightB key = true ∧ x.R 12) (.mk k n s l (ksW ks key) (fW ks f key x)) w e w' := by
  have HH := Lib.hid H
  have HXX := Lib.hid HX
  have HSH := Lib.hid hsh
  have HSX := Lib.hid hshx
  have hcn2 := hcn
  simp only [Va.cnt] at hcn2
  have hfl : f.length ≤ 60 := by have := len_le_cntL f; omega
  have HCN := Lib.hid hcn
  have HCX := Lib.hid hcnx
  simp only [Lies] at H
  obtain ⟨⟨e1, e2, e3, e4, e5, e6⟩, -, -, -⟩ := H
  have E6 := Lib.hid e6
  clear HX hsh hshx hcn2 hcn hcnx e1 e2 e3 e4 e5 e6
  have htb := TB.start w h hx
  have HTB := Lib.hid htb
  have hob := object_prog (.mk k n s l ks f) S h _ (HH.out.below htb.bel (Nat.le_refl _)) HSH.out (by have := HCN.out; omega)
  have HOB := Lib.hid hob
  clear hob htb
  have hml : (500 : Nat) ≤ maxLen := by decide
  have hkm : key.size ≤ maxLen := Nat.le_trans hk5 hml
  clear hml
  unfold Hd.val at *
  go_enter Try.func31, Try.ntmps31
  go_wp2_with fail
  refine HOB.out.mono ?_
  rintro e w1 ⟨r, rfl, hr, hb1⟩
  have HT1 := Lib.hid (HTB.out.go hb1 (by simp))
  have HR := Lib.hid hr
  clear hb1 hr HOB HTB
  cases r
  · have z0 := HT1.out.res.cell (show 0 < 5 by decide)
    have z1 := HT1.out.res.cell (show 1 < 5 by decide)
    have z2 := HT1.out.res.cell (show 2 < 5 by decide)
    have z3 := HT1.out.res.cell (show 3 < 5 by decide)
    have z4 := HT1.out.res.cell (show 4 < 5 by decide)
    have g0 := HT1.out.res.frozen 0
    have g1 := HT1.out.res.frozen 1
    have g2 := HT1.out.res.frozen 2
    have g3 := HT1.out.res.frozen 3
    have g4 := HT1.out.res.frozen 4
    simp only [hdAt, Hd.cells, List.getD_cons_succ, List.getD_cons_zero] at z0 z1 z2 z3 z4
    go_wp2_with fail
    refine bodyPost_ret (v := .tuple #[.agg #[.int .i64 0, .int .i64 0, .string ByteArray.empty, .slice none 0 0, .slice none 0 0], .int .i64 1]) (by simp [results, Try.results31, go_sem, z0, z1, z2, z3, z4]; try rfl) rfl ?_
    exact ⟨zeroVa, zeroHd, 1, rfl, lies_zero _ _, res_below HT1.out.bel (by omega), fun _ => ⟨rfl, rfl⟩, fun h => absurd h (fun q => by have := HR.out.2 ⟨q.1, q.2.1⟩; cases this), fun h => absurd h (fun q => by have := HR.out.2 ⟨q.1, q.2.1⟩; cases this)⟩
  have HY1 := Lib.hid (HR.out.1 rfl)
  clear HR
  go_wp2_with fail
  refine (right_any key hkm w1).mono ?_
  rintro e w2 ⟨rfl, hb2⟩
  have HT2 := Lib.hid (HT1.out.go hb2 HT1.out.sz)
  clear hb2 HT1
  cases hrk : rightB key
  · have HRK := Lib.hid hrk
    clear hrk
    have z0 := HT2.out.res.cell (show 0 < 5 by decide)
    have z1 := HT2.out.res.cell (show 1 < 5 by decide)
    have z2 := HT2.out.res.cell (show 2 < 5 by decide)
    have z3 := HT2.out.res.cell (show 3 < 5 by decide)
    have z4 := HT2.out.res.cell (show 4 < 5 by decide)
    have g0 := HT2.out.res.frozen 0
    have g1 := HT2.out.res.frozen 1
    have g2 := HT2.out.res.frozen 2
    have g3 := HT2.out.res.frozen 3
    have g4 := HT2.out.res.frozen 4
    simp only [hdAt, Hd.cells, List.getD_cons_succ, List.getD_cons_zero] at z0 z1 z2 z3 z4
    go_wp2_with fail
    refine bodyPost_ret (v := .tuple #[.agg #[.int .i64 0, .int .i64 0, .string ByteArray.empty, .slice none 0 0, .slice none 0 0], .int .i64 1]) (by simp [results, Try.results31, go_sem, z0, z1, z2, z3, z4]; try rfl) rfl ?_
    exact ⟨zeroVa, zeroHd, 1, rfl, lies_zero _ _, res_below HT2.out.bel (by omega), fun _ => ⟨rfl, rfl⟩, fun h => absurd h (fun q => by have := q.2.2.1; rw [HRK.out] at this; cases this), fun h => absurd h (fun q => by have := q.2.2.1; rw [HRK.out] at this; cases this)⟩
  have HRK := Lib.hid hrk
  clear hrk
  have x0 := HT2.out.bx.2 0 _ rfl
  have x1 := HT2.out.bx.2 1 _ rfl
  have x2 := HT2.out.bx.2 2 _ rfl
  have x3 := HT2.out.bx.2 3 _ rfl
  have x4 := HT2.out.bx.2 4 _ rfl
  go_wp2_with fail
  refine (right_prog x S' hx w2 (HXX.out.below HT2.out.bel (Nat.le_refl _)) HSX.out (by have := HCX.out; omega)).mono ?_
  rintro e w3 ⟨r, rfl, hr, hb3⟩
  have HT3 := Lib.hid (HT2.out.go hb3 HT2.out.sz)
  have HR := Lib.hid hr
  clear hb3 hr HT2 x0 x1 x2 x3 x4
  cases r
  · have z0 := HT3.out.res.cell (show 0 < 5 by decide)
    have z1 := HT3.out.res.cell (show 1 < 5 by decide)
    have z2 := HT3.out.res.cell (show 2 < 5 by decide)
    have z3 := HT3.out.res.cell (show 3 < 5 by decide)
    have z4 := HT3.out.res.cell (show 4 < 5 by decide)
    have g0 := HT3.out.res.frozen 0
    have g1 := HT3.out.res.frozen 1
    have g2 := HT3.out.res.frozen 2
    have g3 := HT3.out.res.frozen 3
    have g4 := HT3.out.res.frozen 4
    simp only [hdAt, Hd.cells, List.getD_cons_succ, List.getD_cons_zero] at z0 z1 z2 z3 z4
    go_wp2_with fail
    refine bodyPost_ret (v := .tuple #[.agg #[.int .i64 0, .int .i64 0, .string ByteArray.empty, .slice none 0 0, .slice none 0 0], .int .i64 1]) (by simp [results, Try.results31, go_sem, z0, z1, z2, z3, z4]; try rfl) rfl ?_
    exact ⟨zeroVa, zeroHd, 1, rfl, lies_zero _ _, res_below HT3.out.bel (by omega), fun _ => ⟨rfl, rfl⟩, fun h => absurd h (fun q => by have := HR.out.2 q.2.2.2; cases this), fun h => absurd h (fun q => by have := HR.out.2 q.2.2.2; cases this)⟩
  have HARG := Lib.hid (show h.k = 5 ∧ (Va.mk k n s l ks f).R 12 ∧ rightB key = true ∧ x.R 12 from ⟨HY1.out.1, HY1.out.2, HRK.out, HR.out.1 rfl⟩)
  clear HR HRK HY1
  have HND := Lib.hid (show ks.Nodup from by have := HARG.out.2.1; simp only [Va.R] at this; exact this.2.2.1.2)
  have q0 := HT3.out.bv.2 0 _ rfl
  have q1 := HT3.out.bv.2 1 _ rfl
  have q2 := HT3.out.bv.2 2 _ rfl
  have q3 := HT3.out.bv.2 3 _ rfl
  have q4 := HT3.out.bv.2 4 _ rfl
  go_wp2_with fail
  refine (anew_any (.mk k n s l ks f) S h w3 (HH.out.below HT3.out.bel (Nat.le_refl _)) HSH.out (by have := HCN.out; omega)).mono ?_
  rintro e w4 ⟨h4, T4, rfl, hown4, hT4, hb4⟩
  have HT4 := Lib.hid (HT3.out.go hb4 HT3.out.sz)
  have HL4 := Lib.hid (Own.lies _ _ _ hown4)
  have hlf4 : h4.lf = f.length := by have := HL4.out; simp only [Lies] at this; exact this.1.2.2.2.2.1
  have hsz3 := HT3.out.sz
  obtain ⟨k4, n4, s4, A4, la4, lc4, F4, lf4, fc4⟩ := h4
  simp only at hlf4
  subst hlf4
  have HO4 := Lib.hid hown4
  have HTR := Lib.hid hT4
  clear hown4 hT4 hb4 HT3 q0 q1 q2 q3 q4
  go_wp2_with fail
  have hb5 : Below w4.heap.size w4 (w4.alloc (Obj.cells #[.int .i64 k4, .int .i64 n4, .string s4, .slice A4 la4 lc4, .slice F4 f.length fc4] 25)) := one_alloc w4 _
  have hbw5 := Bx.start w4 ⟨k4, n4, s4, A4, la4, lc4, F4, f.length, fc4⟩ 25
  have hf5 : (w4.alloc (Obj.cells #[.int .i64 k4, .int .i64 n4, .string s4, .slice A4 la4 lc4, .slice F4 f.length fc4] 25)).frozen? ⟨w4.heap.size, 4, none⟩ = false := World.frozen?_alloc_new w4 _ _ 4
  generalize w4.alloc (Obj.cells #[.int .i64 k4, .int .i64 n4, .string s4, .slice A4 la4 lc4, .slice F4 f.length fc4] 25) = w5 at hb5 hbw5 hf5 ⊢
  have HF5 := Lib.hid hf5
  clear hf5
  have HT5 := Lib.hid (HT4.out.go hb5 HT4.out.sz)
  have HW5 := Lib.hid hbw5
  have HB5 := Lib.hid hb5
  have hsz4 := HT4.out.sz
  have hsz5 := HT5.out.sz
  clear hb5 hbw5
  refine (place_any ks key ⟨k4, n4, s4, A4, la4, lc4, F4, f.length, fc4⟩ w5 E6.out.symm (by have := E6.out; omega) ((HL4.out.op.keys E6.out).below HB5.out (Nat.le_refl _))).mono ?_
  rintro e w6 ⟨m, rfl, hp, hb6⟩
  have HP := Lib.hid hp
  have HT6 := Lib.hid (HT5.out.go hb6 HT5.out.sz)
  have HW6 := Lib.hid (HW5.out.go hb6 HW5.out.1)
  have hsz6 := HT6.out.sz
  have hle46 : w4.heap.size < w6.heap.size := HW6.out.1
  have HB6 := Lib.hid (HB5.out.trans (hb6.mono HB5.out.size))
  have hfz : w6.frozen? ⟨w4.heap.size, 4, none⟩ = false := (hb6.frozen (p := ⟨w4.heap.size, 4, none⟩) HW5.out.1).trans HF5.out
  clear hp hb6 HT5 HW5 HB5 HT4
  have hxs : SX5 (w.heap.size + 1) hx w6 := ⟨HT6.out.bx.2 0 _ rfl, HT6.out.bx.2 1 _ rfl, HT6.out.bx.2 2 _ rfl, HT6.out.bx.2 3 _ rfl, HT6.out.bx.2 4 _ rfl⟩
  have HXS := Lib.hid hxs
  have HFZ := Lib.hid hfz
  clear hfz
  have cW := HW6.out.2 4 _ rfl
  obtain ⟨x0, x1, x2, x3, x4⟩ := hxs
  have hx1s : w.heap.size + 1 < w6.heap.size := by omega
  have hneX : w.heap.size + 1 ≠ w4.heap.size := by omega
  rcases HP.out.ge with hm | hm
  · subst hm
    have hnk : Hid (key ∉ ks) := by
      rcases HP.out with ⟨_, h⟩ | ⟨i, h, _⟩
      · exact h
      · exact absurd h (by omega)
    obtain ⟨vs, hrow4, hrowT, happ⟩ := own_app HO4.out
    have HAPP := Lib.hid happ
    have HRT := Lib.hid hrowT
    have hrX : some (w.heap.size + 1) ≠ (Value.slice F4 f.length fc4).ownBlock := fun e => by have := HTR.out _ (hrowT _ e.symm); omega
    have hrW : some w4.heap.size ≠ (Value.slice F4 f.length fc4).ownBlock := fun e => by have := HTR.out _ (hrowT _ e.symm); omega
    have HRX := Lib.hid hrX
    have HRW := Lib.hid hrW
    have hrow6 := own_below hrow4 HB6.out (Nat.le_refl _)
    have HOWN := Lib.hid (show ∀ w1 w2, Below w6.drew.heap.size w6.drew w1 → Below w1.heap.size w1 w2 → w2.ownsRow 0 36 6 (.slice F4 f.length fc4) f.length ((ks.zip vs).flatMap pcells) from fun w1 w2 hb hb' => own_below (own_below (own_below hrow6 ((Below.refl w6.heap.size w6).drew) (Nat.le_refl _)) hb (Nat.le_refl _)) hb' (Nat.le_refl _))
    have HCLN := Lib.hid (fun wq : World => clone_any key (by omega) wq)
    have HCAL := Lib.hid (show ∀ w1, Below w6.drew.heap.size w6.drew w1 → Calls Try.prog 65 #[hx.val] w1 fun e w' => NewR x w1 e w' from
      fun w1 hb => anew_any x S' hx w1 (((HXX.out.below HT6.out.bel (Nat.le_refl _)).below ((Below.refl w6.heap.size w6).drew) (Nat.le_refl _)).below hb (Nat.le_refl _)) HSX.out (by have := HCX.out; omega))
    have fWb := HFZ.out
    obtain ⟨i0, hi0, hz0, hz1, hz2⟩ := info_parts info36
    have HXD := Lib.hid (SX5.imp (w' := w6.drew) HXS.out rfl)
    clear hrow4 hrowT happ hrX hrW hrow6
    go_wp2_with fail
    have hld : ldW = Op.load 23 (Operand.tmp 38) := rfl
    rw [show Op.load 23 (Operand.tmp 38) = ldW from rfl]
    go_region_held3 (fun w' => w'.cell? ⟨w.heap.size + 1, 0, none⟩ = some (.int .i64 hx.k) ∧ w'.cell? ⟨w.heap.size + 1, 1, none⟩ = some (.int .i64 hx.n) ∧ w'.cell? ⟨w.heap.size + 1, 2, none⟩ = some (.string hx.s) ∧ w'.cell? ⟨w.heap.size + 1, 3, none⟩ = some (.slice hx.A hx.la hx.lc) ∧ w'.cell? ⟨w.heap.size + 1, 4, none⟩ = some (.slice hx.F hx.lf hx.fc))
      (first
        | go_keep
        | (exact SX5.bel HXD.out hb1)
        | (exact SX5.bel (SX5.bel HXD.out hb1) hb2)
        | (exact SX5.alloc (SX5.bel (SX5.bel HXD.out hb1) hb2) _)
        | (exact SX5.grown (SX5.alloc (SX5.bel (SX5.bel HXD.out hb1) hb2) _) hgrow3 HRX.out)
        | (exact SX5.set (SX5.grown (SX5.alloc (SX5.bel (SX5.bel HXD.out hb1) hb2) _) hgrow3 HRX.out) hneX _)
        | skip)
      (first
        | (go_at_call 77; refine (Hid.out HCLN _).mono ?_; rintro e w7 ⟨rfl, hb1⟩; have cW1 := cur_call cW hb1; have fW1 := cur_frz cW fWb hb1)
        | (go_at_call 65; refine (Hid.out HCAL _ hb1).mono ?_; rintro e w8 ⟨hx', T7, rfl, hown7, hT7, hb2⟩; have cW2 := cur_bel cW1 hb2; have fW2 := cur_bfrz cW1 fW1 hb2; have hWw2 := World.block_lt_of_cell? w8 _ cW2)
        | (refine step_append_lies _ (by rfl) _ _ _ (by rfl) 0 36 i0 _ 6 96 Try.underlying23 hi0 hz0 hz1 hz2 rfl (by decide) (.slice F4 f.length fc4) f.length ((ks.zip vs).flatMap pcells) (by rfl) (World.ownsRow.alloc (Hid.out HOWN _ _ hb1 hb2) _) ⟨w8.heap.size, 0, none⟩ 1 1 (pcells (key, hx')) (by rfl) (by rfl) (World.news_of_block (heap_alloc_new w8 _)) (by simp [pcells, Hd.cells, Value.oneCell']) (by decide) (by unfold maxLen; omega) (by omega) (Nat.zero_le _) (w8.heap.size + 1) (by simp) ?_; intro g cap w9 hown9 hgrow3 hat9 hlt9; have cW3 := cur_grown cW2 hgrow3 HRW.out; have fW3 := cur_gfrz cW2 fW2 hgrow3 HRW.out)
        | fail)
    all_goals (
      have hb1' : Below w6.heap.size w6 w7 := ((Below.refl _ _).drew).trans hb1
      have hb68 : Below w6.heap.size w6 w8 := hb1'.trans (hb2.mono hb1'.size)
      have hs7 := hb1'.size
      have hs8 := hb2.size
      have hs9 := hgrow3.size
      simp only [World.size_alloc] at hs9
      have hrowlt : ∀ b, (Value.slice F4 f.length fc4).ownBlock = some b → w3.heap.size ≤ b ∧ b < w4.heap.size := fun b hb => HTR.out b (HRT.out b hb)
      have hgW : g ≠ w4.heap.size := by
        rcases hat9 with e | e
        · have := hrowlt g e; omega
        · omega
      have hgR : g ≠ w.heap.size + 2 := by
        rcases hat9 with e | e
        · have := hrowlt g e; omega
        · omega
      have hTBz : TB w h hx (w9.setCell ⟨w4.heap.size, 4, none⟩ (.slice (some ⟨g, 0, none⟩) (f.length + 1) cap)) :=
        (HT6.out.go hb68 (by omega)).go (B := w.heap.size + 3) ((((Below.refl (w.heap.size + 3) w8).alloc (by omega) _).grown hgrow3 (by simp; omega) (fun b hb => by have := hrowlt b hb; omega)).setCell (by show _ ≤ w4.heap.size; omega) _) (Nat.le_refl _)
      have hBWz : Bx (w9.setCell ⟨w4.heap.size, 4, none⟩ (.slice (some ⟨g, 0, none⟩) (f.length + 1) cap)) w4.heap.size ⟨k4, n4, s4, A4, la4, lc4, some ⟨g, 0, none⟩, f.length + 1, cap⟩ := by
        have h1 := HW6.out.go hb68 hle46
        have hW9 : w9.heap[w4.heap.size]? = w8.heap[w4.heap.size]? := by rw [hgrow3.block _ (by simp; omega) HRW.out, Below.heap_alloc _ _ _ (by omega)]
        refine ⟨by simp; omega, fun j c hc => ?_⟩
        have hj : j < 5 := (List.getElem?_eq_some_iff.1 hc).1
        have o9 : ∀ c', (Hd.cells ⟨k4, n4, s4, A4, la4, lc4, F4, f.length, fc4⟩)[j]? = some c' → w9.cell? ⟨w4.heap.size, j, none⟩ = some c' := fun c' h' => (World.cell?_of_block (a := ⟨w4.heap.size, j, none⟩) hW9).trans (h1.2 j c' h')
        match j, hj with
        | 0, _ => rw [World.cell?_setCell_other _ _ _ _ (by simp)]; exact o9 c hc
        | 1, _ => rw [World.cell?_setCell_other _ _ _ _ (by simp)]; exact o9 c hc
        | 2, _ => rw [World.cell?_setCell_other _ _ _ _ (by simp)]; exact o9 c hc
        | 3, _ => rw [World.cell?_setCell_other _ _ _ _ (by simp)]; exact o9 c hc
        | 4, _ =>
          simp only [Hd.cells, List.getElem?_cons_succ, List.getElem?_cons_zero, Option.some.injEq] at hc
          subst hc
          exact World.cell?_setCell_same _ _ _ (o9 _ rfl)
      have hLz := HAPP.out w8 w9 (w9.setCell ⟨w4.heap.size, 4, none⟩ (.slice (some ⟨g, 0, none⟩) (f.length + 1) cap)) _ g cap 0 w4.heap.size hx' x T7 key (fun b => b ≠ w.heap.size + 2) (fun b hb => by have := HTR.out b hb; omega) (fun b hb => by have h9 : w7.heap.size ≤ b := (hT7 b hb).1; omega) hgR
        (fun b hb => by have h9 := HTR.out b hb; exact ⟨(hb68.block b (by omega)).trans (HB6.out.block b h9.2), by omega⟩) hown7 (fun b hb => ⟨fun hb2 => by have h9 : w7.heap.size ≤ b := (hT7 b hb).1; have := HTR.out b hb2; omega, (hT7 b hb).2⟩) hown9 hgrow3 (fun b hb => Below.heap_setCell _ _ _ _ hb) (fun hb => by have := HTR.out _ hb; omega) (fun hb => by have h9 : w7.heap.size ≤ w4.heap.size := (hT7 _ hb).1; omega) hgW hat9 hkm (by unfold maxLen; omega)
      have hfw := fW_app (x := x) hnk.out E6.out
      have EQA := Lib.hid (show (Va.mk k n s l (ks ++ [key]) (f ++ [x])) = .mk k n s l (ksW ks key) (fW ks f key x) by rw [hfw.1, hfw.2])
      generalize w9.setCell ⟨w4.heap.size, 4, none⟩ (.slice (some ⟨g, 0, none⟩) (f.length + 1) cap) = wz at hTBz hBWz hLz ⊢
      have HLz := Lib.hid hLz
      have HTz := Lib.hid hTBz
      have HWz := Lib.hid hBWz
      clear hLz hTBz hBWz hb1' hb68 hb1 hb2 hT7 hown7 hown9 hgrow3 hat9 hlt9 hfw cW cW1 cW2 cW3 fWb fW1 fW2 fW3 x0 x1 x2 x3 x4 HOWN HCAL HCLN HXS HXD HT6 HW6 HAPP hrowlt hld
      have b0 := HWz.out.2 0 _ rfl
      have b1 := HWz.out.2 1 _ rfl
      have b2 := HWz.out.2 2 _ rfl
      have b3 := HWz.out.2 3 _ rfl
      have b4 := HWz.out.2 4 _ rfl
      have hszz := HTz.out.sz
      go_wp2_with fail
      refine (right_prog (.mk k n s l (ks ++ [key]) (f ++ [x])) _ ⟨k4, n4, s4, A4, la4, lc4, some ⟨g, 0, none⟩, f.length + 1, cap⟩ wz HLz.out (sh_app HSH.out HSX.out hk5).1 (Nat.le_trans (sh_app HSH.out HSX.out hk5).2 (by have := HCN.out; have := HCX.out; omega))).mono ?_
      rintro e wy ⟨r, rfl, hr, hby⟩
      have HTy := Lib.hid (HTz.out.go hby hszz)
      have HWy := Lib.hid (HWz.out.go hby HWz.out.1)
      have HLy := Lib.hid (HLz.out.below hby (Nat.le_refl _))
      have HR := Lib.hid hr
      clear hr hby b0 b1 b2 b3 b4
      cases r
      · have z0 := HTy.out.res.cell (show 0 < 5 by decide)
        have z1 := HTy.out.res.cell (show 1 < 5 by decide)
        have z2 := HTy.out.res.cell (show 2 < 5 by decide)
        have z3 := HTy.out.res.cell (show 3 < 5 by decide)
        have z4 := HTy.out.res.cell (show 4 < 5 by decide)
        have g0 := HTy.out.res.frozen 0
        have g1 := HTy.out.res.frozen 1
        have g2 := HTy.out.res.frozen 2
        have g3 := HTy.out.res.frozen 3
        have g4 := HTy.out.res.frozen 4
        simp only [hdAt, Hd.cells, List.getD_cons_succ, List.getD_cons_zero] at z0 z1 z2 z3 z4
        go_wp2_with fail
        refine bodyPost_ret (v := .tuple #[.agg #[.int .i64 0, .int .i64 0, .string ByteArray.empty, .slice none 0 0, .slice none 0 0], .int .i64 5]) (by simp [results, Try.results31, go_sem, z0, z1, z2, z3, z4]; try rfl) rfl ?_
        exact ⟨zeroVa, zeroHd, 5, rfl, lies_zero _ _, res_below HTy.out.bel (by omega), fun h => absurd HARG.out h, fun _ _ => ⟨rfl, rfl⟩, fun _ hR => absurd (HR.out.2 (by rw [EQA.out]; exact hR)) (by decide)⟩
      · have b0 := HWy.out.2 0 _ rfl
        have b1 := HWy.out.2 1 _ rfl
        have b2 := HWy.out.2 2 _ rfl
        have b3 := HWy.out.2 3 _ rfl
        have b4 := HWy.out.2 4 _ rfl
        have z0 := HTy.out.res.cell (show 0 < 5 by decide)
        have z1 := HTy.out.res.cell (show 1 < 5 by decide)
        have z2 := HTy.out.res.cell (show 2 < 5 by decide)
        have z3 := HTy.out.res.cell (show 3 < 5 by decide)
        have z4 := HTy.out.res.cell (show 4 < 5 by decide)
        have g0 := HTy.out.res.frozen 0
        have g1 := HTy.out.res.frozen 1
        have g2 := HTy.out.res.frozen 2
        have g3 := HTy.out.res.frozen 3
        have g4 := HTy.out.res.frozen 4
        simp only [hdAt, Hd.cells, List.getD_cons_succ, List.getD_cons_zero] at z0 z1 z2 z3 z4
        go_wp2_with fail
        refine bodyPost_ret (v := .tuple #[.agg #[.int .i64 k4, .int .i64 n4, .string s4, .slice (A4) (la4) (lc4), .slice (some ⟨g, 0, none⟩) (f.length + 1) (cap)], .int .i64 0]) (by simp [results, Try.results31, go_sem, z0, z1, z2, z3, z4]) rfl ?_
        refine ⟨.mk k n s l (ks ++ [key]) (f ++ [x]), ⟨k4, n4, s4, A4, la4, lc4, some ⟨g, 0, none⟩, f.length + 1, cap⟩, 0, rfl, Lies.keep (fun pp hp _ => World.cell?_of_block (res_set (w := w) pp.block hp)) (fun _ _ _ => trivial) _ _ HLy.out, res_below HTy.out.bel (by omega), fun h => absurd HARG.out h, fun _ hR => absurd (HR.out.1 (by first | rfl | trivial)) (by rw [EQA.out]; exact hR), fun _ _ => ⟨rfl, EQA.out⟩⟩)
  · obtain ⟨i, hi⟩ : ∃ i : Nat, m = (i : Int) := ⟨m.toNat, by omega⟩
    subst hi
    have hki : ks[i]? = some key := by
      rcases HP.out with ⟨h, _⟩ | ⟨j, h, h1, _⟩
      · exact absurd h (by omega)
      · rw [show i = j by omega]; exact h1
    have hil : i < f.length := by have := (List.getElem?_eq_some_iff.1 hki).1; have := E6.out; omega
    have HKI := Lib.hid hki
    clear hki
    obtain ⟨g, cap, cur, hg, hTg, hh, hcap, hcs⟩ := own_row HO4.out (by omega)
    obtain rfl : F4 = some ⟨g, 0, none⟩ := hg
    have hg4 := HTR.out g hTg
    have hif : (i : Int) < (f.length : Int) := by omega
    have hi0 : (0 : Int) ≤ (i : Int) := by omega
    have hgW : g ≠ w4.heap.size := by omega
    have hgX : g ≠ w.heap.size + 1 := by omega
    have HROW := Lib.hid (show ∀ w7, Below w6.drew.heap.size w6.drew w7 → w7.heap[g]? = some (.cells cur 36 (0, 0)) from fun w7 hb => by
      have h1 : w6.heap[g]? = w4.heap[g]? := HB6.out.block g hg4.2
      exact ((hb.block g (show g < w6.heap.size by omega)).trans h1).trans hh)
    have HCAL := Lib.hid (anew_any x S' hx w6.drew ((HXX.out.below HT6.out.bel (Nat.le_refl _)).below ((Below.refl w6.heap.size w6).drew) (Nat.le_refl _)) HSX.out (by have := HCX.out; omega))
    have HCS := Lib.hid hcs
    clear hh hcs
    have hWlt : w4.heap.size < w6.drew.heap.size := hle46
    have hXlt : w.heap.size + 1 < w6.drew.heap.size := hx1s
    go_wp2_with fail
    go_region_held3 (fun w' => w'.cell? ⟨w4.heap.size, 4, none⟩ = some (.slice (some ⟨g, 0, none⟩) f.length fc4) ∧ w'.cell? ⟨w.heap.size + 1, 0, none⟩ = some (.int .i64 hx.k) ∧ w'.cell? ⟨w.heap.size + 1, 1, none⟩ = some (.int .i64 hx.n) ∧ w'.cell? ⟨w.heap.size + 1, 2, none⟩ = some (.string hx.s) ∧ w'.cell? ⟨w.heap.size + 1, 3, none⟩ = some (.slice hx.A hx.la hx.lc) ∧ w'.cell? ⟨w.heap.size + 1, 4, none⟩ = some (.slice hx.F hx.lf hx.fc))
      (first
        | go_keep
        | (exact ⟨cellWF cW (hb7.block _ hWlt), SX5.imp HXS.out (hb7.block _ hXlt)⟩)
        | (exact ⟨cellWF (cellWF cW (hb7.block _ hWlt)) (put5_blk hgW.symm), SX5.imp (SX5.imp HXS.out (hb7.block _ hXlt)) (put5_blk hgX.symm)⟩)
        | skip)
      (first
        | (go_at_call 65; refine (Hid.out HCAL).mono ?_; rintro e w7 ⟨hx', T7, rfl, hown7, hT7, hb7⟩; obtain ⟨v1, c1⟩ := row_facts (HROW.out w7 hb7) HCS.out (Nat.lt_of_lt_of_le hil hcap) 1 (by decide); obtain ⟨v2, c2⟩ := row_facts (HROW.out w7 hb7) HCS.out (Nat.lt_of_lt_of_le hil hcap) 2 (by decide); obtain ⟨v3, c3⟩ := row_facts (HROW.out w7 hb7) HCS.out (Nat.lt_of_lt_of_le hil hcap) 3 (by decide); obtain ⟨v4, c4⟩ := row_facts (HROW.out w7 hb7) HCS.out (Nat.lt_of_lt_of_le hil hcap) 4 (by decide); obtain ⟨v5, c5⟩ := row_facts (HROW.out w7 hb7) HCS.out (Nat.lt_of_lt_of_le hil hcap) 5 (by decide); have d1 := row_frozen (p := i * 6 + 1) (HROW.out w7 hb7); have d2 := row_frozen (p := i * 6 + 2) (HROW.out w7 hb7); have d3 := row_frozen (p := i * 6 + 3) (HROW.out w7 hb7); have d4 := row_frozen (p := i * 6 + 4) (HROW.out w7 hb7); have d5 := row_frozen (p := i * 6 + 5) (HROW.out w7 hb7))
        | fail)
    have hb7' : Below w6.heap.size w6 w7 := ((Below.refl _ _).drew).trans hb7
    have hgl : w.heap.size + 3 ≤ g := by omega
    have hs7 := hb7'.size
    have hTB8 : TB w h hx (((((w7.setCell ⟨g, i * 6 + 1, none⟩ (.int .i64 hx'.k)).setCell ⟨g, i * 6 + 1 + 1, none⟩ (.int .i64 hx'.n)).setCell ⟨g, i * 6 + 1 + 2, none⟩ (.string hx'.s)).setCell ⟨g, i * 6 + 1 + 3, none⟩ (.slice hx'.A hx'.la hx'.lc)).setCell ⟨g, i * 6 + 1 + 4, none⟩ (.slice hx'.F hx'.lf hx'.fc)) := (HT6.out.go hb7' (by omega)).go (B := w.heap.size + 3) (((((((Below.refl _ w7).setCell hgl _).setCell hgl _).setCell hgl _).setCell hgl _).setCell hgl _)) (Nat.le_refl _)
    have hBW8 : Bx (((((w7.setCell ⟨g, i * 6 + 1, none⟩ (.int .i64 hx'.k)).setCell ⟨g, i * 6 + 1 + 1, none⟩ (.int .i64 hx'.n)).setCell ⟨g, i * 6 + 1 + 2, none⟩ (.string hx'.s)).setCell ⟨g, i * 6 + 1 + 3, none⟩ (.slice hx'.A hx'.la hx'.lc)).setCell ⟨g, i * 6 + 1 + 4, none⟩ (.slice hx'.F hx'.lf hx'.fc)) w4.heap.size ⟨k4, n4, s4, A4, la4, lc4, some ⟨g, 0, none⟩, f.length, fc4⟩ := by
      have h1 := HW6.out.go hb7' hle46
      have hsz8 : (((((w7.setCell ⟨g, i * 6 + 1, none⟩ (.int .i64 hx'.k)).setCell ⟨g, i * 6 + 1 + 1, none⟩ (.int .i64 hx'.n)).setCell ⟨g, i * 6 + 1 + 2, none⟩ (.string hx'.s)).setCell ⟨g, i * 6 + 1 + 3, none⟩ (.slice hx'.A hx'.la hx'.lc)).setCell ⟨g, i * 6 + 1 + 4, none⟩ (.slice hx'.F hx'.lf hx'.fc)).heap.size = w7.heap.size := by simp
      exact ⟨by rw [hsz8]; exact h1.1, fun j c hc => (World.cell?_of_block (a := ⟨w4.heap.size, j, none⟩) (put5_blk hgW.symm)).trans (h1.2 j c hc)⟩
    have hT4' : ∀ b, T4 b → w7.heap[b]? = w4.heap[b]? := fun b hb => by
      have h1 := HTR.out b hb
      rw [hb7'.block b (by omega)]
      exact HB6.out.block b h1.2
    have hLz : Lies (((((w7.setCell ⟨g, i * 6 + 1, none⟩ (.int .i64 hx'.k)).setCell ⟨g, i * 6 + 1 + 1, none⟩ (.int .i64 hx'.n)).setCell ⟨g, i * 6 + 1 + 2, none⟩ (.string hx'.s)).setCell ⟨g, i * 6 + 1 + 3, none⟩ (.slice hx'.A hx'.la hx'.lc)).setCell ⟨g, i * 6 + 1 + 4, none⟩ (.slice hx'.F hx'.lf hx'.fc)) (fun b => b ≠ w.heap.size + 2) (.mk k n s l ks (f.set i x)) ⟨k4, n4, s4, A4, la4, lc4, some ⟨g, 0, none⟩, f.length, fc4⟩ :=
      lies_put (fun b hb => by have := HTR.out b hb; omega) (fun b hb => by have := hT7 b hb; have : w6.heap.size ≤ b := (hT7 b hb).1; omega) HO4.out hT4' hil hown7 (fun b hb hb2 => by have h1 : w6.heap.size ≤ b := (hT7 b hb).1; have := HTR.out b hb2; omega) rfl
    have hfw := fW_set (x := x) HND.out HKI.out E6.out
    have EQA := Lib.hid (show (Va.mk k n s l ks (f.set i x)) = .mk k n s l (ksW ks key) (fW ks f key x) by rw [hfw.1, hfw.2])
    generalize (((((w7.setCell ⟨g, i * 6 + 1, none⟩ (.int .i64 hx'.k)).setCell ⟨g, i * 6 + 1 + 1, none⟩ (.int .i64 hx'.n)).setCell ⟨g, i * 6 + 1 + 2, none⟩ (.string hx'.s)).setCell ⟨g, i * 6 + 1 + 3, none⟩ (.slice hx'.A hx'.la hx'.lc)).setCell ⟨g, i * 6 + 1 + 4, none⟩ (.slice hx'.F hx'.lf hx'.fc)) = w8 at hTB8 hBW8 hLz ⊢
    have HLz := Lib.hid hLz
    have HTz := Lib.hid hTB8
    have HWz := Lib.hid hBW8
    clear hLz hTB8 hBW8 hT4' hb7' hb7 hT7 hown7 hfw cW x0 x1 x2 x3 x4 c1 c2 c3 c4 c5 d1 d2 d3 d4 d5 HROW HCAL HXS HT6 HW6
    have b0 := HWz.out.2 0 _ rfl
    have b1 := HWz.out.2 1 _ rfl
    have b2 := HWz.out.2 2 _ rfl
    have b3 := HWz.out.2 3 _ rfl
    have b4 := HWz.out.2 4 _ rfl
    have hszz := HTz.out.sz
    go_wp2_with fail
    refine (right_prog (.mk k n s l ks (f.set i x)) _ ⟨k4, n4, s4, A4, la4, lc4, some ⟨g, 0, none⟩, f.length, fc4⟩ w8 HLz.out (sh_put HSH.out HSX.out i).1 (Nat.le_trans (sh_put HSH.out HSX.out i).2 (by have := HCN.out; have := HCX.out; omega))).mono ?_
    rintro e wy ⟨r, rfl, hr, hby⟩
    have HTy := Lib.hid (HTz.out.go hby hszz)
    have HWy := Lib.hid (HWz.out.go hby HWz.out.1)
    have HLy := Lib.hid (HLz.out.below hby (Nat.le_refl _))
    have HR := Lib.hid hr
    clear hr hby b0 b1 b2 b3 b4
    cases r
    · have z0 := HTy.out.res.cell (show 0 < 5 by decide)
      have z1 := HTy.out.res.cell (show 1 < 5 by decide)
      have z2 := HTy.out.res.cell (show 2 < 5 by decide)
      have z3 := HTy.out.res.cell (show 3 < 5 by decide)
      have z4 := HTy.out.res.cell (show 4 < 5 by decide)
      have g0 := HTy.out.res.frozen 0
      have g1 := HTy.out.res.frozen 1
      have g2 := HTy.out.res.frozen 2
      have g3 := HTy.out.res.frozen 3
      have g4 := HTy.out.res.frozen 4
      simp only [hdAt, Hd.cells, List.getD_cons_succ, List.getD_cons_zero] at z0 z1 z2 z3 z4
      go_wp2_with fail
      refine bodyPost_ret (v := .tuple #[.agg #[.int .i64 0, .int .i64 0, .string ByteArray.empty, .slice none 0 0, .slice none 0 0], .int .i64 5]) (by simp [results, Try.results31, go_sem, z0, z1, z2, z3, z4]; try rfl) rfl ?_
      exact ⟨zeroVa, zeroHd, 5, rfl, lies_zero _ _, res_below HTy.out.bel (by omega), fun h => absurd HARG.out h, fun _ _ => ⟨rfl, rfl⟩, fun _ hR => absurd (HR.out.2 (by rw [EQA.out]; exact hR)) (by decide)⟩
    · have b0 := HWy.out.2 0 _ rfl
      have b1 := HWy.out.2 1 _ rfl
      have b2 := HWy.out.2 2 _ rfl
      have b3 := HWy.out.2 3 _ rfl
      have b4 := HWy.out.2 4 _ rfl
      have z0 := HTy.out.res.cell (show 0 < 5 by decide)
      have z1 := HTy.out.res.cell (show 1 < 5 by decide)
      have z2 := HTy.out.res.cell (show 2 < 5 by decide)
      have z3 := HTy.out.res.cell (show 3 < 5 by decide)
      have z4 := HTy.out.res.cell (show 4 < 5 by decide)
      have g0 := HTy.out.res.frozen 0
      have g1 := HTy.out.res.frozen 1
      have g2 := HTy.out.res.frozen 2
      have g3 := HTy.out.res.frozen 3
      have g4 := HTy.out.res.frozen 4
      simp only [hdAt, Hd.cells, List.getD_cons_succ, List.getD_cons_zero] at z0 z1 z2 z3 z4
      go_wp2_with fail
      refine bodyPost_ret (v := .tuple #[.agg #[.int .i64 k4, .int .i64 n4, .string s4, .slice (A4) (la4) (lc4), .slice (some ⟨g, 0, none⟩) (f.length) (fc4)], .int .i64 0]) (by simp [results, Try.results31, go_sem, z0, z1, z2, z3, z4]) rfl ?_
      refine ⟨.mk k n s l ks (f.set i x), ⟨k4, n4, s4, A4, la4, lc4, some ⟨g, 0, none⟩, f.length, fc4⟩, 0, rfl, Lies.keep (fun pp hp _ => World.cell?_of_block (res_set (w := w) pp.block hp)) (fun _ _ _ => trivial) _ _ HLy.out, res_below HTy.out.bel (by omega), fun h => absurd HARG.out h, fun _ hR => absurd (HR.out.1 (by first | rfl | trivial)) (by rw [EQA.out]; exact hR), fun _ _ => ⟨rfl, EQA.out⟩⟩
end Go.Proofs.Ytmdlcalnncncjaa

/- tree.Ordered, in full. -/
set_option linter.unusedVariables false
set_option linter.unusedSimpArgs false
namespace Go.Proofs.Ytmdlcalnncncjaa
open Go.RowKit
/-- Pairs in the order of keys. -/
def ordL (keys : List ByteArray) (ps : List (ByteArray × Va)) : List (ByteArray × Va) := keys.filterMap (fun key => ps.find? fun q : ByteArray × Va => decide (q.1 = key)) ++ ps.filter fun q : ByteArray × Va => (kIdx keys q.1).isNone
def ordV (keys : List ByteArray) : Va → Va
  | .mk k n s l ks f => .mk 5 0 ByteArray.empty [] ((ordL keys (ks.zip f)).map Prod.fst) ((ordL keys (ks.zip f)).map Prod.snd)
theorem ordE_map (keys : List ByteArray) (D : List Eo) : (ordE keys D).map (fun e => (e.key, e.x)) = ordL keys (D.map fun e => (e.key, e.x)) := by
  unfold ordE ordL
  rw [List.map_append, List.map_filterMap, List.filter_map]
  congr 1
  · congr 1
    funext key
    rw [List.find?_map]
    rfl
theorem At6.cells {w : World} {g o : Nat} {key : ByteArray} {u : Hd} (h : At6 w ⟨g, o, none⟩ key u) (j : Nat) (c : Value) (hc : (pcells (key, u))[j]? = some c) : w.cell? ⟨g, o + j, none⟩ = some c := by
  obtain ⟨h0, h1, h2, h3, h4, h5⟩ := h
  have hj : j < 6 := (List.getElem?_eq_some_iff.1 hc).1
  match j, hj with
  | 0, _ => simp only [pcells, List.getElem?_cons_zero, Option.some.injEq] at hc; subst hc; exact h0
  | 1, _ => simp only [pcells, Hd.cells, List.getElem?_cons_succ, List.getElem?_cons_zero, Option.some.injEq] at hc; subst hc; exact h1
  | 2, _ => simp only [pcells, Hd.cells, List.getElem?_cons_succ, List.getElem?_cons_zero, Option.some.injEq] at hc; subst hc; exact h2
  | 3, _ => simp only [pcells, Hd.cells, List.getElem?_cons_succ, List.getElem?_cons_zero, Option.some.injEq] at hc; subst hc; exact h3
  | 4, _ => simp only [pcells, Hd.cells, List.getElem?_cons_succ, List.getElem?_cons_zero, Option.some.injEq] at hc; subst hc; exact h4
  | 5, _ => simp only [pcells, Hd.cells, List.getElem?_cons_succ, List.getElem?_cons_zero, Option.some.injEq] at hc; subst hc; exact h5
/-- The pairs of a value of one's own. -/
theorem Own.pairs {w : World} {k n : Int} {s : ByteArray} {ks : List ByteArray} {f : List Va} {T : Nat → Prop} {h : Hd} (H : Own w (.mk k n s [] ks f) T h) (hT : ∀ b, T b → b < w.heap.size) (h0 : 0 < f.length) :
    ∃ (g : Nat) (D : List Eo), h.F = some ⟨g, 0, none⟩ ∧ T g ∧ D.length = f.length ∧ Sw w g D.toArray w ∧ D.map (fun e => (e.key, e.x)) = ks.zip f ∧ ∀ (i : Nat) e, D[i]? = some e → e.ix = i ∧ Lies w (fun b => T b ∧ b ≠ g) e.x e.u := by
  cases H with
  | mk us vs SL SF hd ul vl rl rf hl hf bl bf sl sf dl df dd =>
    have e6 := hd.1.2.2.2.2.2
    rcases rf.2 with ⟨_, h1⟩ | ⟨g, cap, cur, hv, _, hh, hle, hcm, hsz, ht⟩
    · omega
    · have eF : h.F = some ⟨g, 0, none⟩ := by injection hv
      have bg := bf g (by rw [eF]; rfl)
      have hgl := hT g bg.1
      let mkE : Nat → Eo := fun i => match ks[i]?, vs[i]?, f[i]? with
        | some key, some u, some x => ⟨key, u, x, SF i, i⟩
        | _, _, _ => default
      let D : List Eo := (List.range f.length).map mkE
      have hDl : D.length = f.length := by simp [D]
      have hDi : ∀ (i : Nat) e, D[i]? = some e → ∃ key u x, ks[i]? = some key ∧ vs[i]? = some u ∧ f[i]? = some x ∧ e = ⟨key, u, x, SF i, i⟩ := by
        intro i e he
        have hi : i < f.length := by have := (List.getElem?_eq_some_iff.1 he).1; omega
        have h2 : D[i]? = some (mkE i) := by simp [D, List.getElem?_map, hi]
        have a1 : ks[i]? = some ks[i] := List.getElem?_eq_getElem (by omega)
        have a2 : vs[i]? = some vs[i] := List.getElem?_eq_getElem (by omega)
        have a3 : f[i]? = some f[i] := List.getElem?_eq_getElem hi
        have h3 : mkE i = ⟨ks[i], vs[i], f[i], SF i, i⟩ := by simp only [mkE, a1, a2, a3]
        rw [h2, h3] at he
        injection he with he
        exact ⟨ks[i], vs[i], f[i], a1, a2, a3, he.symm⟩
      have hD2 : D.map (fun e => (e.key, e.x)) = ks.zip f := by
        apply List.ext_getElem?
        intro i
        by_cases hi : i < f.length
        · obtain ⟨key, u, x, a1, a2, a3, a4⟩ := hDi i D[i] (List.getElem?_eq_getElem (by omega))
          rw [List.getElem?_map, List.getElem?_eq_getElem (by omega), a4]
          exact (List.getElem?_zip_eq_some.2 ⟨a1, a3⟩).symm
        · rw [List.getElem?_eq_none (by simp [hDl]; omega), List.getElem?_eq_none (by simp; omega)]
      refine ⟨g, D, eF, bg.1, hDl, ⟨Kp.refl _ _, fun i hi => ?_, fun o => by simp [World.frozen?, hh], hgl, fun i hi => ?_⟩, hD2, fun i e he => ?_⟩
      · have hi' : i < D.length := by simpa using hi
        obtain ⟨key, u, x, a1, a2, a3, a4⟩ := hDi i D[i] (List.getElem?_eq_getElem hi')
        rw [getElem!_pos D.toArray i hi, List.getElem_toArray, a4]
        simp only
        rw [← add0 g (i * 6)]
        refine At6.of fun d c hc => ?_
        rw [ada]
        exact rf.cells (g := g) (by rw [hv]; rfl) (i * 6 + d) c (flat_at pcells 6 (ks.zip vs) (fun _ _ => rfl) i (key, u) (List.getElem?_zip_eq_some.2 ⟨a1, a2⟩) d c hc)
      · have hi' : i < D.length := by simpa using hi
        obtain ⟨key, u, x, a1, a2, a3, a4⟩ := hDi i D[i] (List.getElem?_eq_getElem hi')
        rw [getElem!_pos D.toArray i hi, List.getElem_toArray, a4]
        exact hd.2.2.2.2.1 key (List.mem_of_getElem? a1)
      · obtain ⟨key, u, x, a1, a2, a3, a4⟩ := hDi i e he
        subst a4
        exact ⟨rfl, Lies.keep (fun _ _ _ => rfl) (fun b hb _ => ⟨sf i b hb, fun q => bg.2.2.1 i (by rw [← q]; exact hb)⟩) _ _ (Own.lies _ _ _ (hf i x u a3 a2))⟩
/-- The pairs put anew, as an object. -/
theorem Sw.lies {w0 wr : World} {g : Nat} {d d' : Array Eo} {T : Nat → Prop} {k n : Int} {s : ByteArray} {h : Hd} (H : Sw w0 g d' wr) (hp : d'.toList.Perm d.toList) (hT : T g) (he : ∀ e ∈ d.toList, Lies w0 (fun b => T b ∧ b ≠ g) e.x e.u)
    (hk : h.k = k ∧ h.n = n ∧ h.s = s ∧ h.la = 0) (hb : (-9223372036854775808 ≤ k ∧ k ≤ 9223372036854775807) ∧ (-9223372036854775808 ≤ n ∧ n ≤ 9223372036854775807) ∧ s.size ≤ maxLen) (hF : h.F = some ⟨g, 0, none⟩) (hl : h.lf = d'.size) (hc : d'.size ≤ h.fc) (hm : d'.size ≤ maxLen) :
    Lies wr T (.mk k n s [] (d'.toList.map Eo.key) (d'.toList.map Eo.x)) h := by
  unfold Lies
  refine ⟨⟨hk.1, hk.2.1, hk.2.2.1, hk.2.2.2, by simpa using hl, by simp⟩, ⟨hb.1, hb.2.1, hb.2.2, fun x hx => ?_, by decide, by simpa using hm, Nat.zero_le _, by simpa using hc⟩, ⟨[], fun h => by simp at h, by unfold LiesL; rfl⟩, ⟨d'.toList.map Eo.u, fun _ => ⟨⟨g, 0, none⟩, hF, hT, fun i c hi j v hv => ?_⟩, LiesL_mk (by simp) fun i y u hy hu => ?_⟩⟩
  · obtain ⟨e, he2, rfl⟩ := List.mem_map.1 hx
    obtain ⟨i, hi⟩ := List.mem_iff_getElem?.1 he2
    have hlt : i < d'.size := by have := (List.getElem?_eq_some_iff.1 hi).1; simpa using this
    have := H.key i hlt
    rw [getElem!_pos d' i hlt] at this
    rw [Array.getElem?_toList, Array.getElem?_eq_getElem hlt] at hi
    injection hi with hi
    rwa [hi] at this
  · have hz : (d'.toList.map Eo.key).zip (d'.toList.map Eo.u) = d'.toList.map fun e => (e.key, e.u) := by
      generalize d'.toList = L
      induction L with
      | nil => rfl
      | cons q r ih => simp only [List.map_cons, List.zip_cons_cons, ih]
    rw [hz, List.map_map, List.getElem?_map, Option.map_eq_some_iff] at hi
    obtain ⟨e, he2, rfl⟩ := hi
    have hlt : i < d'.size := by have := (List.getElem?_eq_some_iff.1 he2).1; simpa using this
    have h2 := H.at_ i hlt
    rw [getElem!_pos d' i hlt] at h2
    rw [Array.getElem?_toList, Array.getElem?_eq_getElem hlt] at he2
    injection he2 with he2
    rw [he2] at h2
    rw [add0]
    exact h2.cells j v hv
  · rw [List.getElem?_map, Option.map_eq_some_iff] at hy hu
    obtain ⟨e, he2, rfl⟩ := hy
    obtain ⟨e', he3, rfl⟩ := hu
    rw [he2] at he3
    cases he3
    exact Lies.keep (fun q hq hlt => World.cell?_of_block (H.kp.block _ hq.2 hlt)) (fun b hb _ => hb.1) _ _ (he e (hp.mem_iff.1 (List.mem_of_getElem? he2)))
set_option maxHeartbeats 1000000 in
set_option maxRecDepth 100000 in
/-- Nothing is sorted. -/
theorem sort_empty (F : Option Addr) (c Rv : Nat) (w : World) : Calls Try.prog 81 #[.slice F 0 c, cmpV Rv] w fun e w' => e = .returned (.tuple #[]) ∧ Below w.heap.size w w' := by
  have HI : Hid (∀ wx, Calls Try.prog 122 #[.slice F 0 c, .int .i64 0, .int .i64 0, cmpV Rv] wx fun e w' => e = .returned (.tuple #[]) ∧ w' = wx) := Lib.hid (fun wx => by
    go_enter Try.func122, Try.ntmps122
    go_wp2_with fail
    refine wp_loop_rounds 1 ?_
    rw [rounds_succ]
    go_wp2_with fail
    go_end0
    exact ⟨rfl, rfl⟩)
  have HS : Hid (∀ wx, Calls Try.prog 108 #[.slice F 0 c, .int .i64 0, cmpV Rv] wx fun e w' => e = .returned (.tuple #[]) ∧ w' = wx) := Lib.hid (fun wx => by
    go_enter Try.func108, Try.ntmps108
    go_wp2_with fail
    refine wp_loop_rounds 1 ?_
    rw [rounds_succ]
    go_wp2_with fail
    refine (HI.out wx).mono ?_
    rintro e w1 ⟨rfl, rfl⟩
    go_wp2_with fail
    refine wp_loop_rounds 1 ?_
    rw [rounds_succ]
    go_wp2_with fail
    go_end0
    exact ⟨rfl, rfl⟩)
  go_enter Try.func81, Try.ntmps81
  go_wp2_with fail
  refine (HS.out w).mono ?_
  rintro e w1 ⟨rfl, rfl⟩
  go_wp2_with fail
  go_end0
  exact ⟨rfl, Below.refl _ _⟩
end Go.Proofs.Ytmdlcalnncncjaa

/- The pairs that the reference's Ordered makes, step by step; plain. -/
set_option linter.unusedVariables false
set_option linter.unusedSimpArgs false
namespace Go.Proofs.Ytmdlcalnncncjaa
open Go.RowKit
abbrev fnd (ps : List (ByteArray × Va)) (key : ByteArray) : Option (ByteArray × Va) := ps.find? fun q : ByteArray × Va => decide (q.1 = key)
/-- After i keys. -/
def o1 (keys : List ByteArray) (ps : List (ByteArray × Va)) (i : Nat) : List (ByteArray × Va) := (keys.take i).filterMap (fnd ps)
/-- After i pairs. -/
def o2 (keys : List ByteArray) (ps : List (ByteArray × Va)) (i : Nat) : List (ByteArray × Va) := keys.filterMap (fnd ps) ++ (ps.take i).filter fun q : ByteArray × Va => (kIdx keys q.1).isNone
theorem o1_zero {keys : List ByteArray} {ps : List (ByteArray × Va)} : o1 keys ps 0 = [] := rfl
theorem o2_zero {keys : List ByteArray} {ps : List (ByteArray × Va)} : o2 keys ps 0 = o1 keys ps keys.length := by simp [o1, o2]
theorem o2_all {keys : List ByteArray} {ps : List (ByteArray × Va)} : o2 keys ps ps.length = ordL keys ps := by simp only [o2, List.take_length, ordL]
theorem takeO {α : Type} {l : List α} {i : Nat} {x : α} (h : l[i]? = some x) : l.take (i + 1) = l.take i ++ [x] := by
  rw [List.take_add_one, h]
  rfl
theorem o1_some {keys : List ByteArray} {ps : List (ByteArray × Va)} {i : Nat} {key : ByteArray} {q : ByteArray × Va} (h : keys[i]? = some key) (hf : fnd ps key = some q) : o1 keys ps (i + 1) = o1 keys ps i ++ [q] := by
  unfold o1
  rw [takeO h, List.filterMap_append]
  simp [hf]
theorem o1_none {keys : List ByteArray} {ps : List (ByteArray × Va)} {i : Nat} {key : ByteArray} (h : keys[i]? = some key) (hf : fnd ps key = none) : o1 keys ps (i + 1) = o1 keys ps i := by
  unfold o1
  rw [takeO h, List.filterMap_append]
  simp [hf]
theorem o2_in {keys : List ByteArray} {ps : List (ByteArray × Va)} {i : Nat} {q : ByteArray × Va} (h : ps[i]? = some q) (hk : q.1 ∈ keys) : o2 keys ps (i + 1) = o2 keys ps i := by
  unfold o2
  rw [takeO h, List.filter_append]
  have : ¬ (kIdx keys q.1).isNone := by rw [Option.isNone_iff_eq_none, kIdx_none]; exact fun e => e hk
  simp [this]
theorem o2_out {keys : List ByteArray} {ps : List (ByteArray × Va)} {i : Nat} {q : ByteArray × Va} (h : ps[i]? = some q) (hk : q.1 ∉ keys) : o2 keys ps (i + 1) = o2 keys ps i ++ [q] := by
  unfold o2
  rw [takeO h, List.filter_append]
  have : (kIdx keys q.1).isNone := by rw [Option.isNone_iff_eq_none, kIdx_none]; exact hk
  simp [this]
theorem o1_pre {keys : List ByteArray} {ps : List (ByteArray × Va)} (i : Nat) : o1 keys ps i <+: ordL keys ps := by
  refine List.IsPrefix.trans ?_ (List.prefix_append _ _)
  exact List.IsPrefix.filterMap (fnd ps) (List.take_prefix i keys)
theorem o2_pre {keys : List ByteArray} {ps : List (ByteArray × Va)} (i : Nat) : o2 keys ps i <+: ordL keys ps := by
  unfold o2 ordL
  rw [List.prefix_append_right_inj]
  exact List.IsPrefix.filter _ (List.take_prefix i ps)
theorem next_of {α : Type} {a L : List α} {q : α} (h : a ++ [q] <+: L) : L[a.length]? = some q := by
  obtain ⟨r, rfl⟩ := h
  simp
theorem fnd_at {ks : List ByteArray} {f : List Va} {i : Nat} {key : ByteArray} {x : Va} (hn : ks.Nodup) (h1 : ks[i]? = some key) (h2 : f[i]? = some x) : fnd (ks.zip f) key = some (key, x) := by
  induction ks generalizing f i with
  | nil => simp at h1
  | cons a r ih =>
    cases f with
    | nil => simp at h2
    | cons y g =>
      rw [List.nodup_cons] at hn
      cases i with
      | zero =>
        simp only [List.getElem?_cons_zero, Option.some.injEq] at h1 h2
        subst h1 h2
        simp [fnd]
      | succ j =>
        simp only [List.getElem?_cons_succ] at h1 h2
        have hne : ¬ a = key := fun q => hn.1 (by rw [q]; exact List.mem_of_getElem? h1)
        show List.find? _ ((a, y) :: r.zip g) = _
        rw [List.find?_cons_of_neg (by simpa using hne)]
        exact ih hn.2 h1 h2
theorem fnd_no {ks : List ByteArray} {f : List Va} {key : ByteArray} (h : key ∉ ks) : fnd (ks.zip f) key = none := by
  rw [List.find?_eq_none]
  intro q hq
  have := List.of_mem_zip (a := q.1) (b := q.2) hq
  simp only [decide_eq_true_eq]
  exact fun e => h (by rw [← e]; exact this.1)
/-- Is a pair's key among those so far? -/
theorem o2_mem {keys : List ByteArray} {ps : List (ByteArray × Va)} {i : Nat} {q : ByteArray × Va} (hn : (ps.map Prod.fst).Nodup) (h : ps[i]? = some q) : q.1 ∈ (o2 keys ps i).map Prod.fst ↔ q.1 ∈ keys := by
  have hi := (List.getElem?_eq_some_iff.1 h).1
  constructor
  · intro hm
    obtain ⟨p, hp, e⟩ := List.mem_map.1 hm
    unfold o2 at hp
    rcases List.mem_append.1 hp with hp | hp
    · obtain ⟨key, hk, hf⟩ := List.mem_filterMap.1 hp
      have := List.find?_some hf
      simp only [decide_eq_true_eq] at this
      rw [← e, this]
      exact hk
    · obtain ⟨j, hj⟩ := List.mem_iff_getElem?.1 (List.mem_filter.1 hp).1
      have hj2 : j < i := by have := (List.getElem?_eq_some_iff.1 hj).1; simp at this; omega
      rw [List.getElem?_take_of_lt hj2] at hj
      have e1 : (ps.map Prod.fst)[j]? = some q.1 := by rw [List.getElem?_map, hj, ← e]; rfl
      have e2 : (ps.map Prod.fst)[i]? = some q.1 := by rw [List.getElem?_map, h]; rfl
      have := (List.getElem?_inj (by simp; omega) hn).1 (e1.trans e2.symm)
      omega
  · intro hk
    refine List.mem_map.2 ?_
    cases hf : fnd ps q.1 with
    | none =>
      have := List.find?_eq_none.1 hf q (List.mem_of_getElem? h)
      simp at this
    | some p =>
      have h2 := List.find?_some hf
      simp only [decide_eq_true_eq] at h2
      exact ⟨p, List.mem_append_left _ (List.mem_filterMap.2 ⟨q.1, hk, hf⟩), h2⟩
end Go.Proofs.Ytmdlcalnncncjaa

/- tree.Ordered, walked. -/
set_option linter.unusedVariables false
set_option linter.unusedSimpArgs false
namespace Go.Proofs.Ytmdlcalnncncjaa
open Go.RowKit
/-- The three blocks of a call of Ordered. -/
structure OB (w : World) (h : Hd) (K : Option Addr) (kn kc : Nat) (wr : World) : Prop where
  bel : Below w.heap.size w wr
  bv : Bx wr w.heap.size h
  kv : wr.cell? ⟨w.heap.size + 1, 0, none⟩ = some (.slice K kn kc)
  res : wr.rowIs (w.heap.size + 2) 25 5 zeroRes
  sz : w.heap.size + 3 ≤ wr.heap.size
theorem OB.go {w wr wr' : World} {h : Hd} {K : Option Addr} {kn kc B : Nat} (H : OB w h K kn kc wr) (hb : Below B wr wr') (hB : w.heap.size + 3 ≤ B) : OB w h K kn kc wr' :=
  ⟨H.bel.trans (hb.mono (by omega)), H.bv.go hb (by omega), (hb.cell (p := ⟨w.heap.size + 1, 0, none⟩) (by show w.heap.size + 1 < B; omega)).trans H.kv, rowIs_below H.res hb (by omega), Nat.le_trans H.sz hb.size⟩
theorem OB.kp {w wr wr' : World} {h : Hd} {K : Option Addr} {kn kc g : Nat} (H : OB w h K kn kc wr) (hk : Kp g wr wr') (hg : w.heap.size + 3 ≤ g) : OB w h K kn kc wr' := by
  have h1 := H.sz
  exact ⟨H.bel.trans (hk.bel.mono (by omega)), H.bv.kp hk (by omega), (hk.cell (p := ⟨w.heap.size + 1, 0, none⟩) (by show w.heap.size + 1 ≠ g; omega) (by show w.heap.size + 1 < _; omega)).trans H.kv, rowIs_below' (B := 0) H.res (hk.block _ (by omega) (by omega)), Nat.le_trans h1 hk.size⟩
theorem OB.start (w : World) (h : Hd) (K : Option Addr) (kn kc : Nat) : OB w h K kn kc (((w.alloc (Obj.cells #[.int .i64 h.k, .int .i64 h.n, .string h.s, .slice h.A h.la h.lc, .slice h.F h.lf h.fc] 25)).alloc (Obj.cells #[.slice K kn kc] 44)).alloc (Obj.cells #[.int .i64 0, .int .i64 0, .string { data := #[] }, .slice none 0 0, .slice none 0 0] 25)) := by
  refine ⟨((one_alloc w _).alloc (by simp) _).alloc (by simp; omega) _, ((Bx.start w h 25).alloc _).alloc _, ?_, hdAt_row (h := zeroHd) ?_, by simp⟩
  · have h9 := heap_alloc_new (w.alloc (Obj.cells #[.int .i64 h.k, .int .i64 h.n, .string h.s, .slice h.A h.la h.lc, .slice h.F h.lf h.fc] 25)) (Obj.cells #[.slice K kn kc] 44)
    rw [World.size_alloc] at h9
    have h8 := Below.heap_alloc ((w.alloc (Obj.cells #[.int .i64 h.k, .int .i64 h.n, .string h.s, .slice h.A h.la h.lc, .slice h.F h.lf h.fc] 25)).alloc (Obj.cells #[.slice K kn kc] 44)) (Obj.cells #[.int .i64 0, .int .i64 0, .string { data := #[] }, .slice none 0 0, .slice none 0 0] 25) (w.heap.size + 1) (by simp)
    rw [cell_of_row _ (w.heap.size + 1) _ #[.slice K kn kc] 44 (0, 0) (h8.trans h9)]
    rfl
  · have h9 := heap_alloc_new ((w.alloc (Obj.cells #[.int .i64 h.k, .int .i64 h.n, .string h.s, .slice h.A h.la h.lc, .slice h.F h.lf h.fc] 25)).alloc (Obj.cells #[.slice K kn kc] 44)) (Obj.cells #[.int .i64 0, .int .i64 0, .string { data := #[] }, .slice none 0 0, .slice none 0 0] 25)
    rwa [World.size_alloc, World.size_alloc] at h9
theorem RankAt.kp {w w' : World} {Mv Kv g : Nat} {keys : List ByteArray} {b n : Nat} {D : DataW Unit} {K : Option Addr} {kc : Nat} (H : RankAt w Mv Kv keys b n D K kc) (hk : Kp g w w') (h1 : Mv ≠ g) (h2 : Kv ≠ g) (h3 : b ≠ g) : RankAt w' Mv Kv keys b n D K kc := by
  refine ⟨(hk.cell (p := ⟨Mv, 0, none⟩) h1 (World.block_lt_of_cell? w _ H.m)).trans H.m, (hk.cell (p := ⟨Kv, 0, none⟩) h2 (World.block_lt_of_cell? w _ H.k)).trans H.k, ?_, H.told, Nat.lt_of_lt_of_le H.lt hk.size⟩
  obtain ⟨es, clock, a1, a2⟩ := H.own
  exact ⟨es, clock, (hk.block b h3 H.lt).trans a1, a2⟩
/-- A right object. -/
theorem obj_R {n : Int} {t : ByteArray} {l : List Va} {ks : List ByteArray} {f : List Va} {d : Nat} (h : (Va.mk 5 n t l ks f).R d) : n = 0 ∧ t = ByteArray.empty ∧ l = [] ∧ ks.Nodup := by
  simp only [Va.R] at h
  obtain ⟨-, hT, hK, -⟩ := h
  refine ⟨?_, ?_, ?_, hK.2⟩
  · have := hT.c1
    by_cases e : n = 0
    · exact e
    · exact absurd ⟨by decide, by decide, e⟩ this
  · have := hT.c2
    by_cases e : t.size = 0
    · exact empty_of e
    · exact absurd ⟨by decide, e⟩ this
  · have := hT.c3
    cases l with
    | nil => rfl
    | cons a b => exact absurd ⟨by decide, by simp⟩ this
/-- What Ordered answers. -/
def OrdO (keys : List ByteArray) (arg : Prop) (a : Va) (w : World) (e : Ending) (w' : World) : Prop := ∃ (b : Va) (h' : Hd) (er : Int), e = .returned (.tuple #[.agg #[.int .i64 h'.k, .int .i64 h'.n, .string h'.s, .slice h'.A h'.la h'.lc, .slice h'.F h'.lf h'.fc], .int .i64 er]) ∧ Below w.heap.size w w' ∧ Lies w' (fun x => w.heap.size ≤ x) b h' ∧
  ((¬ arg ∧ er = 1 ∧ b = zeroVa) ∨ (arg ∧ ¬ keys.Nodup ∧ er = 7 ∧ b = zeroVa) ∨ (arg ∧ keys.Nodup ∧ er = 0 ∧ b = ordV keys a))
set_option maxHeartbeats 4000000 in
set_option maxRecDepth 100000 in
theorem ordered_prog (k n : Int) (s : ByteArray) (l : List Va) (ks : List ByteArray) (f : List Va) (S : Nat → Prop) (h : Hd) (w : World) (K : Option Addr) (kc : Nat) (keys : List ByteArray) (H : Lies w S (.mk k n s l ks f) h) (hsh : (Va.mk k n s l ks f).Sh) (hcn : (Va.mk k n s l ks f).cnt ≤ 1000) (hK : Rd w K keys.length (keys.map Value.string)) (hkl : keys.length ≤ 1000) (hkz : ∀ x ∈ keys, x.size ≤ maxLen) :
    Calls Try.prog 35 #[h.val, .slice K keys.length kc] w fun e w' => OrdO keys (h.k = 5 ∧ (Va.mk k n s l ks f).R 12) (.mk k n s l ks f) w e w' := by
  have HH := Lib.hid H
  have HSH := Lib.hid hsh
  have HKR := Lib.hid hK
  have HKZ := Lib.hid hkz
  have hcn2 := hcn
  simp only [Va.cnt] at hcn2
  have hfl : f.length ≤ 1000 := by have := len_le_cntL f; omega
  have HCN := Lib.hid hcn
  simp only [Lies] at H
  obtain ⟨⟨e1, e2, e3, e4, e5, e6⟩, -, -, -⟩ := H
  have E6 := Lib.hid e6
  have E1 := Lib.hid e1
  clear hsh hcn2 hcn e1 e2 e3 e4 e5 e6 hK hkz
  have htb := OB.start w h K keys.length kc
  have HTB := Lib.hid htb
  have hob := object_prog (.mk k n s l ks f) S h _ (HH.out.below htb.bel (Nat.le_refl _)) HSH.out (by have := HCN.out; omega)
  have HOB := Lib.hid hob
  clear hob htb
  unfold Hd.val at *
  go_enter Try.func35, Try.ntmps35
  go_wp2_with fail
  refine HOB.out.mono ?_
  rintro e w1 ⟨r, rfl, hr, hb1⟩
  have HT1 := Lib.hid (HTB.out.go hb1 (by simp))
  have HR := Lib.hid hr
  clear hb1 hr HOB HTB
  cases r
  · have z0 := HT1.out.res.cell (show 0 < 5 by decide)
    have z1 := HT1.out.res.cell (show 1 < 5 by decide)
    have z2 := HT1.out.res.cell (show 2 < 5 by decide)
    have z3 := HT1.out.res.cell (show 3 < 5 by decide)
    have z4 := HT1.out.res.cell (show 4 < 5 by decide)
    have g0 := HT1.out.res.frozen 0
    have g1 := HT1.out.res.frozen 1
    have g2 := HT1.out.res.frozen 2
    have g3 := HT1.out.res.frozen 3
    have g4 := HT1.out.res.frozen 4
    simp only [hdAt, Hd.cells, List.getD_cons_succ, List.getD_cons_zero] at z0 z1 z2 z3 z4
    go_wp2_with fail
    refine bodyPost_ret (v := .tuple #[.agg #[.int .i64 0, .int .i64 0, .string ByteArray.empty, .slice none 0 0, .slice none 0 0], .int .i64 1]) (by simp [results, Try.results35, go_sem, z0, z1, z2, z3, z4]; try rfl) rfl ?_
    exact ⟨zeroVa, zeroHd, 1, rfl, res_below HT1.out.bel (by omega), lies_zero _ _, .inl ⟨fun q => absurd (HR.out.2 q) (by decide), rfl, rfl⟩⟩
  have HARG := Lib.hid (HR.out.1 rfl)
  clear HR
  have kv := HT1.out.kv
  have hs1 := HT1.out.sz
  go_wp2_with fail
  refine (places_any keys K kc w1 (by omega) HKZ.out (HKR.out.below HT1.out.bel (Nat.le_refl _))).mono ?_
  rintro e w2 ⟨hb2, hp⟩
  have HT2 := Lib.hid (HT1.out.go hb2 HT1.out.sz)
  clear hb2 HT1 kv
  rcases hp with ⟨hnd, mb, mn, D, rfl, hmb, hown, hto⟩ | ⟨hnd, rfl⟩
  case inr =>
    have HND := Lib.hid hnd
    have HT3 := Lib.hid (HT2.out.go (one_alloc w2 (Obj.cells #[Value.map none] 82)) HT2.out.sz)
    clear hnd
    have z0 := HT3.out.res.cell (show 0 < 5 by decide)
    have z1 := HT3.out.res.cell (show 1 < 5 by decide)
    have z2 := HT3.out.res.cell (show 2 < 5 by decide)
    have z3 := HT3.out.res.cell (show 3 < 5 by decide)
    have z4 := HT3.out.res.cell (show 4 < 5 by decide)
    have g0 := HT3.out.res.frozen 0
    have g1 := HT3.out.res.frozen 1
    have g2 := HT3.out.res.frozen 2
    have g3 := HT3.out.res.frozen 3
    have g4 := HT3.out.res.frozen 4
    simp only [hdAt, Hd.cells, List.getD_cons_succ, List.getD_cons_zero] at z0 z1 z2 z3 z4
    go_wp2_with fail
    refine bodyPost_ret (v := .tuple #[.agg #[.int .i64 0, .int .i64 0, .string ByteArray.empty, .slice none 0 0, .slice none 0 0], .int .i64 7]) (by simp [results, Try.results35, go_sem, z0, z1, z2, z3, z4]; try rfl) rfl ?_
    exact ⟨zeroVa, zeroHd, 7, rfl, res_below HT3.out.bel (by omega), lies_zero _ _, .inr (.inl ⟨HARG.out, HND.out, rfl, rfl⟩)⟩
  have HND := Lib.hid hnd
  have hmlt : mb < w2.heap.size := by
    obtain ⟨es, clock, h1, h2⟩ := hown
    exact (Array.getElem?_eq_some_iff.1 h1).1
  have HOWN := Lib.hid hown
  have HTO := Lib.hid hto
  clear hown hto hnd
  have kv := HT2.out.kv
  have hs2 := HT2.out.sz
  have hbB : Below w2.heap.size w2 ((w2.alloc (Obj.cells #[Value.map (some mb)] 82)).alloc (Obj.cells #[closR w2.heap.size (w.heap.size + 1)] 86)) := (one_alloc w2 _).alloc (by simp) _
  have HT3 := Lib.hid (HT2.out.go hbB hs2)
  have q0 := HT3.out.bv.2 0 _ rfl
  have q1 := HT3.out.bv.2 1 _ rfl
  have q2 := HT3.out.bv.2 2 _ rfl
  have q3 := HT3.out.bv.2 3 _ rfl
  have q4 := HT3.out.bv.2 4 _ rfl
  have hmA : ((w2.alloc (Obj.cells #[Value.map (some mb)] 82)).alloc (Obj.cells #[closR w2.heap.size (w.heap.size + 1)] 86)).cell? ⟨w2.heap.size, 0, none⟩ = some (.map (some mb)) := by
    have h9 := heap_alloc_new w2 (Obj.cells #[Value.map (some mb)] 82)
    rw [cell_of_row _ w2.heap.size _ #[Value.map (some mb)] 82 (0, 0) ((Below.heap_alloc _ _ _ (by simp)).trans h9)]
    rfl
  have hrA : ((w2.alloc (Obj.cells #[Value.map (some mb)] 82)).alloc (Obj.cells #[closR w2.heap.size (w.heap.size + 1)] 86)).cell? ⟨w2.heap.size + 1, 0, none⟩ = some (closR w2.heap.size (w.heap.size + 1)) := by
    have h9 := heap_alloc_new (w2.alloc (Obj.cells #[Value.map (some mb)] 82)) (Obj.cells #[closR w2.heap.size (w.heap.size + 1)] 86)
    rw [World.size_alloc] at h9
    rw [cell_of_row _ (w2.heap.size + 1) _ #[closR w2.heap.size (w.heap.size + 1)] 86 (0, 0) h9]
    rfl
  have hszA : ((w2.alloc (Obj.cells #[Value.map (some mb)] 82)).alloc (Obj.cells #[closR w2.heap.size (w.heap.size + 1)] 86)).heap.size = w2.heap.size + 2 := by simp
  have hra : RankAt ((w2.alloc (Obj.cells #[Value.map (some mb)] 82)).alloc (Obj.cells #[closR w2.heap.size (w.heap.size + 1)] 86)) w2.heap.size (w.heap.size + 1) keys mb mn D K kc := by
    refine ⟨hmA, HT3.out.kv, ?_, HTO.out, by rw [hszA]; omega⟩
    obtain ⟨es, clock, h1, h2⟩ := HOWN.out
    exact ⟨es, clock, (hbB.block mb hmlt).trans h1, h2⟩
  have HRA := Lib.hid hra
  have HRV := Lib.hid hrA
  clear hmA hrA hra hbB
  go_wp2_with fail
  have HAN := Lib.hid (fun (wx : World) (hx : OB w h K keys.length kc wx) => anew_any (.mk k n s l ks f) S h wx (HH.out.below hx.bel (Nat.le_refl _)) HSH.out HCN.out)
  generalize (w2.alloc (Obj.cells #[Value.map (some mb)] 82)).alloc (Obj.cells #[closR w2.heap.size (w.heap.size + 1)] 86) = w3 at *
  refine (HAN.out w3 HT3.out).mono ?_
  rintro e w4 ⟨h4, T4, rfl, hown4, hT4, hb4⟩
  have HT4 := Lib.hid (HT3.out.go hb4 HT3.out.sz)
  have HL4 := Lib.hid (Own.lies _ _ _ hown4)
  have hlf4 : h4.lf = f.length := by have := HL4.out; simp only [Lies] at this; exact this.1.2.2.2.2.1
  have hsz4 := HT4.out.sz
  have hs34 := hb4.size
  have HRA4 := Lib.hid (HRA.out.below hb4)
  have HRV4 := Lib.hid (cur_bel HRV.out hb4)
  have HO4 := Lib.hid hown4
  have HTR := Lib.hid hT4
  obtain ⟨k4, n4, s4, A4, la4, lc4, F4, lf4, fc4⟩ := h4
  simp only at hlf4
  subst hlf4
  clear hown4 hT4 hb4 HT3 HT2 HRA HRV HAN q0 q1 q2 q3 q4 kv
  have eK : k = 5 := by rw [← E1.out]; exact HARG.out.1
  obtain ⟨eN, eS, eL, eND⟩ := obj_R (by have := HARG.out.2; rw [eK] at this; exact this)
  subst eL
  have EQ := Lib.hid (And.intro eK (And.intro eN eS))
  have END := Lib.hid eND
  clear eK eN eS eND
  go_wp2_with fail
  have hb5 : Below w4.heap.size w4 (w4.alloc (Obj.cells #[.int .i64 k4, .int .i64 n4, .string s4, .slice A4 la4 lc4, .slice F4 f.length fc4] 25)) := one_alloc w4 _
  have hbw5 := Bx.start w4 ⟨k4, n4, s4, A4, la4, lc4, F4, f.length, fc4⟩ 25
  generalize w4.alloc (Obj.cells #[.int .i64 k4, .int .i64 n4, .string s4, .slice A4 la4 lc4, .slice F4 f.length fc4] 25) = w5 at hb5 hbw5 ⊢
  have HSO : Hid (Calls Try.prog 81 #[.slice F4 f.length fc4, cmpV (w2.heap.size + 1)] w5 fun e w6 => e = .returned (.tuple #[]) ∧ OB w h K keys.length kc w6 ∧ Bx w6 w4.heap.size ⟨k4, n4, s4, A4, la4, lc4, F4, f.length, fc4⟩ ∧ w4.heap.size ≤ w6.heap.size ∧ Lies w6 T4 (ordV keys (.mk k n s [] ks f)) ⟨k4, n4, s4, A4, la4, lc4, F4, f.length, fc4⟩) := by
    refine Lib.hid ?_
    have hT5 := HT4.out.go hb5 HT4.out.sz
    have hR5 := HRA4.out.below hb5
    have hV5 := cur_bel HRV4.out hb5
    have hO5 := Own.keep _ _ _ HO4.out (fun b hb => hb5.block b (HTR.out b hb).2)
    have hL5 := Own.lies _ _ _ hO5
    have hs5 := hb5.size
    obtain ⟨ek, en, es⟩ := EQ.out
    rcases Nat.eq_zero_or_pos f.length with h0 | h0
    · have ef : f = [] := List.length_eq_zero_iff.1 h0
      have eks : ks = [] := List.length_eq_zero_iff.1 (by rw [E6.out]; exact h0)
      subst ef eks
      have eo : ordV keys (.mk k n s [] [] []) = .mk k n s [] [] [] := by
        unfold ordV
        rw [ek, en, es]
        have : ordL keys [] = [] := by unfold ordL; simp
        simp [this]
      rw [eo]
      refine (sort_empty F4 fc4 (w2.heap.size + 1) w5).mono ?_
      rintro e w6 ⟨rfl, hb6⟩
      have := hb6.size
      exact ⟨rfl, hT5.go hb6 hT5.sz, hbw5.go hb6 hbw5.1, by omega, hL5.below hb6 (Nat.le_refl _)⟩
    · obtain ⟨g, DD, eF, hTg, hDl, hSw, hDz, hDe⟩ := Own.pairs hO5 (fun b hb => Nat.lt_of_lt_of_le (HTR.out b hb).2 hs5) h0
      simp only at eF
      subst eF
      have hg := HTR.out g hTg
      have hks : DD.map Eo.key = ks := by
        have h1 := congrArg (List.map Prod.fst) hDz
        rw [List.map_map, List.map_fst_zip (by rw [E6.out]; exact Nat.le_refl _)] at h1
        exact h1
      have hup : ∀ i j, i < j → j < f.length → DD.toArray[i]!.ix < DD.toArray[j]!.ix := by
        have h7 : ∀ i, i < f.length → DD.toArray[i]!.ix = i := fun i hi => by
          have hlt : i < DD.length := by omega
          rw [getElem!_pos DD.toArray i (by simpa using hlt), List.getElem_toArray]
          exact (hDe i DD[i] (List.getElem?_eq_getElem hlt)).1
        intro i j hij hj
        rw [h7 i (by omega), h7 j hj]
        exact hij
      have hcmp : CmpOk w5 g (w2.heap.size + 1) (rkK keys) := by
        intro wr hk k1 k2 u1 u2 q1 q2
        refine (ord_any keys k1 k2 u1 u2 (w2.heap.size + 1) w2.heap.size (w.heap.size + 1) mb mn D K kc wr q1 q2 (hR5.kp hk (by omega) (by omega) (by omega)) ((hk.cell (p := ⟨w2.heap.size + 1, 0, none⟩) (by show w2.heap.size + 1 ≠ g; omega) (World.block_lt_of_cell? w5 _ hV5)).trans hV5)).mono ?_
        rintro e w' ⟨⟨r1, r2, p1, p2, rfl⟩, hb⟩
        rw [RankP.rk HND.out p1, RankP.rk HND.out p2]
        exact ⟨rfl, hb⟩
      refine (sort_any w5 g f.length fc4 (w2.heap.size + 1) (rkK keys) DD.toArray w5 hSw hcmp (by simp [hDl]) hfl hup).mono ?_
      rintro e w6 ⟨rfl, d', h1, h2, h3⟩
      have hsz : f.length = DD.toArray.size := by simp [hDl]
      have heq : d'.toList = ordE keys DD := sorted_ordE (d := DD.toArray) HND.out (by simpa [hks] using END.out) (fun i j q1 q2 => hup i j q1 (by omega)) (by rw [← hsz]; exact h2) (by rw [← hsz]; exact h3)
      have hpl : d'.toList.Perm DD := by
        rw [heq]
        refine ordE_perm HND.out (by rw [hks]; exact END.out) ?_
        rw [List.pairwise_iff_getElem]
        intro i j hi hj hij
        rw [(hDe i DD[i] (List.getElem?_eq_getElem hi)).1, (hDe j DD[j] (List.getElem?_eq_getElem hj)).1]
        exact hij
      have eo : ordV keys (.mk k n s [] ks f) = .mk 5 0 ByteArray.empty [] (d'.toList.map Eo.key) (d'.toList.map Eo.x) := by
        simp only [ordV]
        rw [← hDz, ← ordE_map, ← heq, List.map_map, List.map_map]
        rfl
      rw [eo]
      have hds : d'.size = f.length := by have := hpl.length_eq; simpa [hDl] using this
      simp only [Lies] at hL5
      obtain ⟨⟨e1, e2, e3, e4, e5, e6⟩, ⟨b1, b2, b3, b4, b5, b6, b7, b8⟩, -⟩ := hL5
      have hs6 := h1.kp.size
      refine ⟨rfl, hT5.kp h1.kp (by omega), hbw5.kp h1.kp (by omega), by omega, Sw.lies (d := DD.toArray) h1 (by simpa using hpl) hTg (fun e he => ?_) ⟨e1.trans ek, e2.trans en, e3.trans es, e4⟩ ⟨by decide, by decide, by decide⟩ rfl hds.symm (by rw [hds]; exact b8) (by rw [hds]; exact b6)⟩
      obtain ⟨i, hi⟩ := List.mem_iff_getElem?.1 (show e ∈ DD by simpa using he)
      exact (hDe i e hi).2
  refine HSO.out.mono ?_
  rintro e w6 ⟨rfl, hT6', hW6, hs6, hL6⟩
  have HT6 := Lib.hid hT6'
  have HW6 := Lib.hid hW6
  have HL6 := Lib.hid hL6
  clear hT6' hW6 hL6 hb5 hbw5 HSO HT4
  have b0 := HW6.out.2 0 _ rfl
  have b1 := HW6.out.2 1 _ rfl
  have b2 := HW6.out.2 2 _ rfl
  have b3 := HW6.out.2 3 _ rfl
  have b4 := HW6.out.2 4 _ rfl
  have z0 := HT6.out.res.cell (show 0 < 5 by decide)
  have z1 := HT6.out.res.cell (show 1 < 5 by decide)
  have z2 := HT6.out.res.cell (show 2 < 5 by decide)
  have z3 := HT6.out.res.cell (show 3 < 5 by decide)
  have z4 := HT6.out.res.cell (show 4 < 5 by decide)
  have g0 := HT6.out.res.frozen 0
  have g1 := HT6.out.res.frozen 1
  have g2 := HT6.out.res.frozen 2
  have g3 := HT6.out.res.frozen 3
  have g4 := HT6.out.res.frozen 4
  simp only [hdAt, Hd.cells, List.getD_cons_succ, List.getD_cons_zero] at z0 z1 z2 z3 z4
  go_wp2_with fail
  refine bodyPost_ret (v := .tuple #[.agg #[.int .i64 k4, .int .i64 n4, .string s4, .slice A4 la4 lc4, .slice F4 f.length fc4], .int .i64 0]) (by simp [results, Try.results35, go_sem, z0, z1, z2, z3, z4]) rfl ?_
  refine ⟨ordV keys (.mk k n s [] ks f), ⟨k4, n4, s4, A4, la4, lc4, F4, f.length, fc4⟩, 0, rfl, res_below HT6.out.bel (by omega), ?_, .inr (.inr ⟨HARG.out, HND.out, rfl, rfl⟩)⟩
  exact Lies.keep (fun p hp _ => World.cell?_of_block (res_set (w := w) p.block (by have := HTR.out _ hp; omega))) (fun b hb _ => by have := HTR.out _ hb; omega) _ _ HL6.out
end Go.Proofs.Ytmdlcalnncncjaa

/- What the reference's Sorted answers, as a plain function. -/
set_option linter.unusedVariables false
set_option linter.unusedSimpArgs false
namespace Go.Proofs.Ytmdlcalnncncjaa
open Go.RowKit
def lessB (x y : ByteArray) : Bool := Op.bytesLess x.toList y.toList
/-- How many keys at the beginning are below a key. -/
def plc : List ByteArray → ByteArray → Nat
  | [], _ => 0
  | x :: r, key => if lessB x key then plc r key + 1 else 0
theorem plc_le (key : ByteArray) : ∀ ks : List ByteArray, plc ks key ≤ ks.length
  | [] => Nat.le_refl _
  | x :: r => by
    have := plc_le key r
    simp only [plc, List.length_cons]
    split <;> omega
theorem plc_step {key : ByteArray} : ∀ {ks : List ByteArray} {k : Nat} {x : ByteArray}, k ≤ plc ks key → ks[k]? = some x → lessB x key = true → k + 1 ≤ plc ks key
  | [], k, x, _, h, _ => by simp at h
  | y :: r, 0, x, _, h, hl => by
    simp at h
    subst h
    simp [plc, hl]
  | y :: r, k + 1, x, hk, h, hl => by
    simp only [plc] at hk ⊢
    split at hk
    · rename_i hy
      rw [if_pos hy]
      have := plc_step (ks := r) (k := k) (by omega) (by simpa using h) hl
      omega
    · omega
theorem plc_stop {key : ByteArray} : ∀ {ks : List ByteArray} {k : Nat} {x : ByteArray}, k ≤ plc ks key → ks[k]? = some x → lessB x key = false → k = plc ks key
  | [], k, x, _, h, _ => by simp at h
  | y :: r, 0, x, _, h, hl => by
    simp at h
    subst h
    simp [plc, hl]
  | y :: r, k + 1, x, hk, h, hl => by
    simp only [plc] at hk ⊢
    split at hk
    · rename_i hy
      rw [if_pos hy]
      have := plc_stop (ks := r) (k := k) (by omega) (by simpa using h) hl
      omega
    · omega
theorem plc_end {key : ByteArray} {ks : List ByteArray} {k : Nat} (h : k ≤ plc ks key) (hk : ks.length ≤ k) : k = plc ks key := by
  have := plc_le key ks
  omega
/-- A pair put among pairs. -/
def putP {α : Type} (acc : List (ByteArray × α)) (p : ByteArray × α) : List (ByteArray × α) := acc.take (plc (acc.map Prod.fst) p.1) ++ p :: acc.drop (plc (acc.map Prod.fst) p.1)
def srtP {α : Type} (ps : List (ByteArray × α)) : List (ByteArray × α) := ps.foldl putP []
theorem putP_length {α : Type} (acc : List (ByteArray × α)) (p : ByteArray × α) : (putP acc p).length = acc.length + 1 := by
  have := plc_le p.1 (acc.map Prod.fst)
  simp only [List.length_map] at this
  simp only [putP, List.length_append, List.length_take, List.length_cons, List.length_drop]
  omega
theorem foldP_length {α : Type} : ∀ (ps acc : List (ByteArray × α)), (ps.foldl putP acc).length = acc.length + ps.length
  | [], acc => rfl
  | p :: r, acc => by
    rw [List.foldl_cons, foldP_length r, putP_length, List.length_cons]
    omega
theorem srtP_length {α : Type} (ps : List (ByteArray × α)) : (srtP ps).length = ps.length := by
  rw [srtP, foldP_length]
  simp
theorem srtP_step {α : Type} {ps : List (ByteArray × α)} {i : Nat} {p : ByteArray × α} (h : ps[i]? = some p) : srtP (ps.take (i + 1)) = putP (srtP (ps.take i)) p := by
  rw [srtP, List.take_add_one, h]
  simp [srtP, List.foldl_append]
/-- The same order whatever the pairs hold: a putting is a putting of what is held. -/
theorem putP_map {α β : Type} (g : α → β) (acc : List (ByteArray × α)) (p : ByteArray × α) : (putP acc p).map (fun q => (q.1, g q.2)) = putP (acc.map fun q => (q.1, g q.2)) (p.1, g p.2) := by
  have : (acc.map fun q => (q.1, g q.2)).map Prod.fst = acc.map Prod.fst := by simp [List.map_map, Function.comp_def]
  simp only [putP, this, List.map_append, List.map_take, List.map_cons, List.map_drop]
mutual
/-- A value with its pairs by their keys. -/
def Va.srt : Va → Va
  | .mk k n s l ks f => .mk k n s (srtL l) ((srtP (ks.zip (srtL f))).map Prod.fst) ((srtP (ks.zip (srtL f))).map Prod.snd)
def srtL : List Va → List Va
  | [] => []
  | x :: r => x.srt :: srtL r
end
theorem srtL_map : ∀ l : List Va, srtL l = l.map Va.srt
  | [] => rfl
  | x :: r => by rw [srtL, List.map_cons, srtL_map r]
theorem srtL_get {l : List Va} {i : Nat} {x : Va} (h : l[i]? = some x) : (srtL l)[i]? = some x.srt := by
  rw [srtL_map, List.getElem?_map, h]
  rfl
theorem srtL_length (l : List Va) : (srtL l).length = l.length := by rw [srtL_map, List.length_map]
end Go.Proofs.Ytmdlcalnncncjaa

/- What the reference's Sorted leaves, step by step: the elements. -/
set_option linter.unusedVariables false
set_option linter.unusedSimpArgs false
namespace Go.Proofs.Ytmdlcalnncncjaa
open Go.RowKit
/-- What Sorted answers: the value lies above the old heap. -/
def SrtR (a : Va) (w : World) (e : Ending) (w' : World) : Prop := ∃ h', e = .returned (.agg #[.int .i64 h'.k, .int .i64 h'.n, .string h'.s, .slice h'.A h'.la h'.lc, .slice h'.F h'.lf h'.fc]) ∧ Lies w' (fun b => w.heap.size ≤ b) a.srt h' ∧ Below w.heap.size w w'
/-- A row that is being made: its elements lie off it. -/
structure LieP (w : World) (lo : Nat) (v : Value) (l : List Va) (us : List Hd) : Prop where
  len : us.length = l.length
  lie : ∀ (i : Nat) x u, l[i]? = some x → us[i]? = some u → Lies w (fun b => lo ≤ b ∧ v.ownBlock ≠ some b) x u
theorem LieP.start (w : World) (lo : Nat) (v : Value) : LieP w lo v [] [] := ⟨rfl, fun i x u h => by simp at h⟩
theorem LieP.step {w w' : World} {lo : Nat} {v v' : Value} {l : List Va} {us : List Hd} {x : Va} {u : Hd} (h : LieP w lo v l us)
    (hk : ∀ b, lo ≤ b → b < w.heap.size → v.ownBlock ≠ some b → w'.heap[b]? = w.heap[b]?) (hx : Lies w' (fun b => lo ≤ b ∧ v'.ownBlock ≠ some b) x u)
    (hv : ∀ b, lo ≤ b → b < w.heap.size → v'.ownBlock = some b → v.ownBlock = some b) : LieP w' lo v' (l ++ [x]) (us ++ [u]) := by
  refine ⟨by simp [h.len], fun i y z hy hz => ?_⟩
  by_cases hi : i < l.length
  · rw [List.getElem?_append_left hi] at hy
    rw [List.getElem?_append_left (by rw [h.len]; exact hi)] at hz
    exact Lies.keep (fun p hp hl => World.cell?_of_block (hk _ hp.1 hl hp.2)) (fun b hb hl => ⟨hb.1, fun e => hb.2 (hv b hb.1 hl e)⟩) _ _ (h.lie i y z hy hz)
  · rw [List.getElem?_append_right (by omega)] at hy
    rw [List.getElem?_append_right (by rw [h.len]; omega)] at hz
    rw [h.len] at hz
    obtain ⟨rfl, e⟩ : x = y ∧ i - l.length = 0 := by
      rcases hj : i - l.length with _ | j
      · rw [hj] at hy; simpa using hy
      · rw [hj] at hy; simp at hy
    rw [e] at hz
    simp at hz
    subst hz
    exact hx
/-- The loop over the elements. -/
structure LoopA (wc : World) (W : Nat) (hk hnn : Int) (hs : ByteArray) (l : List Va) (i : Nat) (wr : World) (us : List Hd) (A' : Option Addr) (c' : Nat) : Prop where
  hi : i ≤ l.length
  kp : Kp W wc wr
  row : wr.rowIs W 25 5 (hdAt ⟨hk, hnn, hs, A', i, c', none, 0, 0⟩)
  own : wr.ownsRow wc.heap.size 25 5 (.slice A' i c') i (us.flatMap Hd.cells)
  part : LieP wr wc.heap.size (.slice A' i c') (l.take i) us
theorem LoopA.step {wc wr wx w2 w3 : World} {W i g cap : Nat} {hk hnn : Int} {hs : ByteArray} {l : List Va} {us : List Hd} {A' : Option Addr} {c' : Nat} {x : Va} {h' : Hd} {o : Obj}
    (H : LoopA wc W hk hnn hs l i wr us A' c') (hW : W < wc.heap.size) (hx : l[i]? = some x) (hbx : Below wr.heap.size wr wx) (hb2 : Below wx.drew.heap.size wx.drew w2) (ho : Lies w2 (fun b => wx.drew.heap.size ≤ b) x h')
    (hown3 : w3.ownsRow wc.heap.size 25 5 (.slice (some ⟨g, 0, none⟩) (i + 1) cap) (i + 1) (us.flatMap Hd.cells ++ h'.cells)) (hgrow : (w2.alloc o).grownBy w3 (Value.slice A' i c').ownBlock)
    (hat : (Value.slice A' i c').ownBlock = some g ∨ g = w2.heap.size + 1) :
    LoopA wc W hk hnn hs l (i + 1) (w3.setCell ⟨W, 3, none⟩ (.slice (some ⟨g, 0, none⟩) (i + 1) cap)) (us ++ [h']) (some ⟨g, 0, none⟩) cap := by
  have hb2' : Below wx.heap.size wx w2 := ((Below.refl _ _).drew).trans hb2
  have hbr : Below wr.heap.size wr w2 := hbx.trans (hb2'.mono hbx.size)
  have hil : i < l.length := (List.getElem?_eq_some_iff.1 hx).1
  have hkr := H.kp.size
  have hs2 := hbr.size
  have hsx := hbx.size
  have hs2x := hb2'.size
  have hg3 := hgrow.size
  simp only [World.size_alloc] at hg3
  have hrow : ∀ b, (Value.slice A' i c').ownBlock = some b → wc.heap.size ≤ b ∧ b < wr.heap.size := fun b hb => own_lo H.own hb
  have blk : ∀ b, b < wr.heap.size → (Value.slice A' i c').ownBlock ≠ some b → w3.heap[b]? = wr.heap[b]? := fun b h1 h2 => by
    rw [hgrow.block b (by simp; omega) (fun e => h2 e.symm), Below.heap_alloc _ _ _ (by omega), hbr.block b h1]
  have blkT : ∀ b, wx.heap.size ≤ b → b < w2.heap.size → w3.heap[b]? = w2.heap[b]? := fun b h1 h2 => by
    rw [hgrow.block b (by simp; omega) (fun e => by have := hrow b e.symm; omega), Below.heap_alloc _ _ _ (by omega)]
  have hWr : W < wr.heap.size := by omega
  have hWn : (Value.slice A' i c').ownBlock ≠ some W := fun e => by have := hrow W e; omega
  have hgW : g ≠ W := by
    rcases hat with e | e
    · have := hrow g e; omega
    · omega
  have set_blk : ∀ b, b ≠ W → (w3.setCell ⟨W, 3, none⟩ (.slice (some ⟨g, 0, none⟩) (i + 1) cap)).heap[b]? = w3.heap[b]? := fun b hb => Below.heap_setCell _ _ _ _ hb
  refine ⟨by omega, ?_, ?_, ?_, ?_⟩
  · refine Kp.setN ⟨?_, by omega, fun k h1 h2 => ?_⟩ _
    · exact ((H.kp.bel.trans (hbr.mono (by omega))).alloc (by omega) o).grown hgrow (by simp; omega) (fun k hk => by have := hrow k hk; omega)
    · rw [blk k (by omega) (fun e => by have := hrow k e; omega)]
      exact H.kp.block k h1 h2
  · have h0 : w3.rowIs W 25 5 (hdAt ⟨hk, hnn, hs, A', i, c', none, 0, 0⟩) := rowIs_below' (B := 0) H.row (blk W hWr hWn)
    refine (h0.set 3 _).congr (fun j hj => ?_)
    match j, hj with
    | 0, _ => rfl
    | 1, _ => rfl
    | 2, _ => rfl
    | 3, _ => rfl
    | 4, _ => rfl
  · rw [List.flatMap_append, List.flatMap_singleton]
    refine own_block hown3 fun b hb => set_blk b ?_
    simp only [Value.ownBlock, Option.some.injEq] at hb
    omega
  · rw [take_next hx]
    have hgb : ∀ b, (Value.slice (some ⟨g, 0, none⟩) (i + 1) cap).ownBlock = some b → b = g := fun b hb => by
      simp only [Value.ownBlock, Option.some.injEq] at hb
      exact hb.symm
    refine H.part.step ?_ ?_ ?_
    · intro b h1 h2 h3
      rw [set_blk b (by omega)]
      exact blk b h2 h3
    · refine Lies.keep (fun p (hp : wx.heap.size ≤ p.block) hl => World.cell?_of_block ?_) (fun b (hb : wx.heap.size ≤ b) hl => ⟨by omega, fun e => ?_⟩) x h' ho
      · rw [set_blk _ (by omega)]
        exact blkT _ hp hl
      · have e1 := hgb b e
        rcases hat with e2 | e2
        · have := hrow g e2
          omega
        · omega
    · intro b h1 h2 e
      have e1 := hgb b e
      rcases hat with e2 | e2
      · rw [e1]; exact e2
      · omega
end Go.Proofs.Ytmdlcalnncncjaa

/- What the reference's Sorted leaves, step by step: the pairs. -/
set_option linter.unusedVariables false
set_option linter.unusedSimpArgs false
namespace Go.Proofs.Ytmdlcalnncncjaa
open Go.RowKit
/-- The loop over the pairs. -/
structure LoopG (wd : World) (W : Nat) (hw : Hd) (qs : List (ByteArray × Va)) (i : Nat) (wt : World) (vs : List (ByteArray × Hd)) (F' : Option Addr) (d' : Nat) : Prop where
  hi : i ≤ qs.length
  kp : Kp W wd wt
  row : wt.rowIs W 25 5 (hdAt ⟨hw.k, hw.n, hw.s, hw.A, hw.la, hw.lc, F', i, d'⟩)
  own : wt.ownsRow wd.heap.size 36 6 (.slice F' i d') i (vs.flatMap pcells)
  keys : vs.map Prod.fst = (srtP (qs.take i)).map Prod.fst
  lie : ∀ (j : Nat) p v, (srtP (qs.take i))[j]? = some p → vs[j]? = some v → Lies wt (fun b => wd.heap.size ≤ b) p.2 v.2
/-- The load of out.L in the drawn statement, under a name. -/
def ldS : Op := Op.load 22 (Operand.tmp 23)
/-- What the drawn statement of an element loads. -/
def SE (X : Nat) (sl : Value) (q : Addr) (u : Hd) (w : World) : Prop := w.cell? ⟨X, 3, none⟩ = some sl ∧ At5 w q u
theorem SE.imp {X : Nat} {sl : Value} {q : Addr} {u : Hd} {w w' : World} (h : SE X sl q u w) (hX : w'.heap[X]? = w.heap[X]?) (hq : w'.heap[q.block]? = w.heap[q.block]?) : SE X sl q u w' :=
  ⟨(World.cell?_of_block (a := ⟨X, 3, none⟩) hX).trans h.1, (World.cell?_of_block (a := q) hq).trans h.2.1, (World.cell?_of_block (a := ⟨q.block, _, none⟩) hq).trans h.2.2.1, (World.cell?_of_block (a := ⟨q.block, _, none⟩) hq).trans h.2.2.2.1, (World.cell?_of_block (a := ⟨q.block, _, none⟩) hq).trans h.2.2.2.2.1, (World.cell?_of_block (a := ⟨q.block, _, none⟩) hq).trans h.2.2.2.2.2⟩
theorem SE.ltX {X : Nat} {sl : Value} {q : Addr} {u : Hd} {w : World} (h : SE X sl q u w) : X < w.heap.size := World.block_lt_of_cell? w _ h.1
theorem SE.ltq {X : Nat} {sl : Value} {q : Addr} {u : Hd} {w : World} (h : SE X sl q u w) : q.block < w.heap.size := World.block_lt_of_cell? w _ h.2.1
theorem SE.call {X : Nat} {sl : Value} {q : Addr} {u : Hd} {w w2 : World} (h : SE X sl q u w) (hb : Below w.drew.heap.size w.drew w2) : SE X sl q u w2 := h.imp (hb.block _ h.ltX) (hb.block _ h.ltq)
theorem SE.alloc {X : Nat} {sl : Value} {q : Addr} {u : Hd} {w : World} (h : SE X sl q u w) (o : Obj) : SE X sl q u (w.alloc o) := h.imp (Below.heap_alloc _ _ _ h.ltX) (Below.heap_alloc _ _ _ h.ltq)
theorem SE.grown {X : Nat} {sl : Value} {q : Addr} {u : Hd} {w w' : World} {row : Option Nat} (h : SE X sl q u w) (hg : w.grownBy w' row) (h1 : some X ≠ row) (h2 : some q.block ≠ row) : SE X sl q u w' := h.imp (hg.block _ h.ltX h1) (hg.block _ h.ltq h2)
theorem SE.set {X W o : Nat} {sl : Value} {q : Addr} {u : Hd} {w : World} (h : SE X sl q u w) (h1 : X ≠ W) (h2 : q.block ≠ W) (v : Value) : SE X sl q u (w.setCell ⟨W, o, none⟩ v) := h.imp (Below.heap_setCell _ _ _ _ h1) (Below.heap_setCell _ _ _ _ h2)
/-- What the drawn statement of a pair loads. -/
abbrev SG (X : Nat) (sl : Value) (q : Addr) (key : ByteArray) (u : Hd) (w' : World) : Prop := w'.cell? ⟨X, 4, none⟩ = some sl ∧ w'.cell? q = some (.string key) ∧ w'.cell? ⟨q.block, q.off + 1, none⟩ = some (.int .i64 u.k) ∧ w'.cell? ⟨q.block, q.off + 2, none⟩ = some (.int .i64 u.n) ∧ w'.cell? ⟨q.block, q.off + 3, none⟩ = some (.string u.s) ∧ w'.cell? ⟨q.block, q.off + 4, none⟩ = some (.slice u.A u.la u.lc) ∧ w'.cell? ⟨q.block, q.off + 5, none⟩ = some (.slice u.F u.lf u.fc)
theorem SG.imp {X : Nat} {sl : Value} {q : Addr} {key : ByteArray} {u : Hd} {w w' : World} (h : SG X sl q key u w) (hX : w'.heap[X]? = w.heap[X]?) (hq : w'.heap[q.block]? = w.heap[q.block]?) : SG X sl q key u w' :=
  ⟨(World.cell?_of_block (a := ⟨X, 4, none⟩) hX).trans h.1, (World.cell?_of_block (a := q) hq).trans h.2.1, (World.cell?_of_block (a := ⟨q.block, _, none⟩) hq).trans h.2.2.1, (World.cell?_of_block (a := ⟨q.block, _, none⟩) hq).trans h.2.2.2.1, (World.cell?_of_block (a := ⟨q.block, _, none⟩) hq).trans h.2.2.2.2.1, (World.cell?_of_block (a := ⟨q.block, _, none⟩) hq).trans h.2.2.2.2.2.1, (World.cell?_of_block (a := ⟨q.block, _, none⟩) hq).trans h.2.2.2.2.2.2⟩
theorem SG.ltX {X : Nat} {sl : Value} {q : Addr} {key : ByteArray} {u : Hd} {w : World} (h : SG X sl q key u w) : X < w.heap.size := World.block_lt_of_cell? w _ h.1
theorem SG.ltq {X : Nat} {sl : Value} {q : Addr} {key : ByteArray} {u : Hd} {w : World} (h : SG X sl q key u w) : q.block < w.heap.size := World.block_lt_of_cell? w _ h.2.1
theorem SG.call {X : Nat} {sl : Value} {q : Addr} {key : ByteArray} {u : Hd} {w w2 : World} (h : SG X sl q key u w) (hb : Below w.drew.heap.size w.drew w2) : SG X sl q key u w2 := h.imp (hb.block _ h.ltX) (hb.block _ h.ltq)
theorem SG.alloc {X : Nat} {sl : Value} {q : Addr} {key : ByteArray} {u : Hd} {w : World} (h : SG X sl q key u w) (o : Obj) : SG X sl q key u (w.alloc o) := h.imp (Below.heap_alloc _ _ _ h.ltX) (Below.heap_alloc _ _ _ h.ltq)
theorem SG.callB {X : Nat} {sl : Value} {q : Addr} {key : ByteArray} {u : Hd} {w w1 : World} {o : Obj} (h : ∀ o, SG X sl q key u (w.alloc o).drew) (hb : Below (w.alloc o).drew.heap.size (w.alloc o).drew w1) : SG X sl q key u w1 := SG.imp (h o) (hb.block _ (h o).ltX) (hb.block _ (h o).ltq)
theorem SG.callC {X : Nat} {sl : Value} {q : Addr} {key : ByteArray} {u : Hd} {w w1 : World} {o : Obj} (h : ∀ o, SG X sl q key u (w.drew.alloc o)) (hb : Below (w.drew.alloc o).heap.size (w.drew.alloc o) w1) : SG X sl q key u w1 := SG.imp (h o) (hb.block _ (h o).ltX) (hb.block _ (h o).ltq)
theorem SG.set6 {X N : Nat} {sl : Value} {q : Addr} {key : ByteArray} {u : Hd} {w : World} (h : SG X sl q key u w) (h1 : X ≠ N) (h2 : q.block ≠ N) (v0 v1 v2 v3 v4 v5 : Value) :
    SG X sl q key u ((((((w.setCell ⟨N, 0, none⟩ v0).setCell ⟨N, 1, none⟩ v1).setCell ⟨N, 2, none⟩ v2).setCell ⟨N, 3, none⟩ v3).setCell ⟨N, 4, none⟩ v4).setCell ⟨N, 5, none⟩ v5) := by
  refine h.imp ?_ ?_
  · rw [Below.heap_setCell _ _ _ _ h1, Below.heap_setCell _ _ _ _ h1, Below.heap_setCell _ _ _ _ h1, Below.heap_setCell _ _ _ _ h1, Below.heap_setCell _ _ _ _ h1, Below.heap_setCell _ _ _ _ h1]
  · rw [Below.heap_setCell _ _ _ _ h2, Below.heap_setCell _ _ _ _ h2, Below.heap_setCell _ _ _ _ h2, Below.heap_setCell _ _ _ _ h2, Below.heap_setCell _ _ _ _ h2, Below.heap_setCell _ _ _ _ h2]
/-- Behind the statement of a pair: p lies at P. -/
structure AftP (wr : World) (P : Nat) (key : ByteArray) (y : Va) (h' : Hd) (wp : World) : Prop where
  bel : Below wr.heap.size wr wp
  lo : wr.heap.size ≤ P
  cel : ∀ (j : Nat) c, (pcells (key, h'))[j]? = some c → wp.cell? ⟨P, j, none⟩ = some c
  lt : P < wp.heap.size
  lie : Lies wp (fun b => wr.heap.size ≤ b) y h'
theorem aftA {wr w1 : World} {key : ByteArray} {y : Va} {h' : Hd} (hb1 : Below wr.drew.heap.size wr.drew w1) (hl : Lies w1 (fun b => wr.drew.heap.size ≤ b) y h') : AftP wr w1.heap.size key y h' (w1.alloc (Obj.cells #[.string key, .int .i64 h'.k, .int .i64 h'.n, .string h'.s, .slice h'.A h'.la h'.lc, .slice h'.F h'.lf h'.fc] 36)) := by
  have hb : Below wr.heap.size wr w1 := ((Below.refl _ _).drew).trans hb1
  refine ⟨hb.alloc hb.size _, hb.size, fun j c hc => ?_, by simp, hl.below (one_alloc w1 _) (Nat.le_refl _)⟩
  exact (World.cell?_alloc_new w1 _ _ j).trans (by rw [← hc]; simp [pcells, Hd.cells])
theorem aftB {wr w1 : World} {key : ByteArray} {y : Va} {h' : Hd} {cs : Array Value} (hcs : cs.size = 6) (hb1 : Below (wr.alloc (Obj.cells cs 36)).drew.heap.size (wr.alloc (Obj.cells cs 36)).drew w1) (hl : Lies w1 (fun b => (wr.alloc (Obj.cells cs 36)).drew.heap.size ≤ b) y h') :
    AftP wr wr.heap.size key y h' ((((((w1.setCell ⟨wr.heap.size, 0, none⟩ (.string key)).setCell ⟨wr.heap.size, 1, none⟩ (.int .i64 h'.k)).setCell ⟨wr.heap.size, 2, none⟩ (.int .i64 h'.n)).setCell ⟨wr.heap.size, 3, none⟩ (.string h'.s)).setCell ⟨wr.heap.size, 4, none⟩ (.slice h'.A h'.la h'.lc)).setCell ⟨wr.heap.size, 5, none⟩ (.slice h'.F h'.lf h'.fc)) := by
  have hb1' : Below (wr.alloc (Obj.cells cs 36)).heap.size (wr.alloc (Obj.cells cs 36)) w1 := ((Below.refl _ _).drew).trans hb1
  have hb : Below wr.heap.size wr w1 := (after_alloc hb1').1
  have hsz := hb1'.size
  simp only [World.size_alloc] at hsz
  have hr : w1.rowIs wr.heap.size 36 6 (fun i => cs.getD i undef) := by
    refine ⟨cs, ?_, hcs, fun i hi => ?_⟩
    · exact (hb1'.block wr.heap.size (by simp)).trans (heap_alloc_new wr _)
    · have : i < cs.size := by omega
      simp [Array.getD, this]
  have hr6 := (((((hr.set 0 (.string key)).set 1 (.int .i64 h'.k)).set 2 (.int .i64 h'.n)).set 3 (.string h'.s)).set 4 (.slice h'.A h'.la h'.lc)).set 5 (.slice h'.F h'.lf h'.fc)
  refine ⟨(((((hb.setCell (Nat.le_refl _) _).setCell (Nat.le_refl _) _).setCell (Nat.le_refl _) _).setCell (Nat.le_refl _) _).setCell (Nat.le_refl _) _).setCell (Nat.le_refl _) _, Nat.le_refl _, fun j c hc => ?_, hr6.lt, ?_⟩
  · have hj : j < 6 := (List.getElem?_eq_some_iff.1 hc).1
    rw [hr6.cell hj]
    match j, hj with
    | 0, _ => simpa [pcells, Hd.cells] using hc
    | 1, _ => simpa [pcells, Hd.cells] using hc
    | 2, _ => simpa [pcells, Hd.cells] using hc
    | 3, _ => simpa [pcells, Hd.cells] using hc
    | 4, _ => simpa [pcells, Hd.cells] using hc
    | 5, _ => simpa [pcells, Hd.cells] using hc
  · refine Lies.keep (fun p (hp : (wr.alloc (Obj.cells cs 36)).heap.size ≤ p.block) _ => World.cell?_of_block ?_) (fun b (hb9 : (wr.alloc (Obj.cells cs 36)).heap.size ≤ b) _ => ?_) y h' hl
    · have hn : p.block ≠ wr.heap.size := by simp only [World.size_alloc] at hp; omega
      rw [Below.heap_setCell _ _ _ _ hn, Below.heap_setCell _ _ _ _ hn, Below.heap_setCell _ _ _ _ hn, Below.heap_setCell _ _ _ _ hn, Below.heap_setCell _ _ _ _ hn, Below.heap_setCell _ _ _ _ hn]
    · simp only [World.size_alloc] at hb9; omega

/-- append of what may be nothing, onto a row of one's own. -/
theorem wpList_append_may {P : Program} (w : World) {ops : Array Oper} {rest : List Oper} {o : Oper} {a : Act} {Q : Exit → Act → World → Prop} (hgd : o.guard = none) (s x : Operand) (t : TypeId)
    (ho : o.op = .call { callee := .builtin .append, args := #[s, x], argTypes := #[t, t] })
    (base : Nat) (e : TypeId) (i : TypeInfo) (z : Value) (size bytes : Nat) (ht : P.underlying t = some (.slice e)) (hi : P.info? e = some i) (hz : i.zero = some z)
    (hsize : i.size = size) (hby : i.bytes = bytes) (hzs : z.cells.size = size) (hsz : 0 < size)
    (v : Value) (n : Nat) (xs : List Value) (hs : a.eval s = v) (hown : w.ownsRow base e size v n xs)
    (B : Option Addr) (m c : Nat) (news : List Value) (hx : a.eval x = .slice B m c) (hl : news.length = m * size)
    (hsrc : (∃ ad, B = some ad ∧ ∀ j u, news[j]? = some u → w.cell? (ad.add j) = some u) ∨ (B = none ∧ m = 0 ∧ news = [])) (h1 : ∀ u ∈ news, u.oneCell' = true)
    (h63 : n + m ≤ maxLen) (hbytes : (n + m) * bytes ≤ 140737488355328) (hbase : base ≤ w.heap.size)
    (h : ∀ v' w', w'.ownsRow base e size v' (n + m) (xs ++ news) → w.grownBy w' v.ownBlock → (v'.ownBlock = v.ownBlock ∨ v'.ownBlock = some w.heap.size) → wpList P ops Q rest (a.put o.dst v') w') :
    wpList P ops Q (o :: rest) a w := by
  rcases hsrc with ⟨ad, rfl, hnews⟩ | ⟨rfl, rfl, rfl⟩
  · exact wpList_append_own_at w hgd s x t ho base e i z size bytes ht hi hz hsize hby hzs hsz v n xs hs hown ad m c news hx hl hnews h1 h63 hbytes hbase fun v' w' a1 a2 _ a4 => h v' w' a1 a2 a4
  · refine wpList_plain hgd fun K hK => ?_
    have hr : (Builtin.append_ #[t, t] o.type #[v, .slice none 0 c]).run P w = .ok v w := by
      rcases hown.2 with ⟨rfl, _⟩ | ⟨g, cap, cur, rfl, _, hh, hle, _, hcs, _⟩
      · have hs0 : Src P i.size t (.slice none 0 c) 0 [] w := Src.ofNil w ht c
        simp [Builtin.append_, run_underlying ht, sizeOf, typeInfo, hi, hs0.len, hs0.cells]
      · have hs0 : Src P i.size t (.slice none 0 c) 0 [] w := Src.ofNil w ht c
        have := run_append_room_src (P := P) w t t o.type e i ht hi g 0 n cap (.slice none 0 c) 0 [] hs0 (by omega) (fun j hj => by simp at hj) (fun j hj => by simp at hj)
        simpa [World.setCells] using this
    unfold Oper.wp execOp
    simp only [ho, resolve, invoke, builtin, Sem.run_bind, Sem.run_pure, Result.andThen_ok, List.map_toArray, List.map_cons, List.map_nil, hs, hx, hr]
    refine hK _ _ (h v w ?_ ⟨rfl, rfl, rfl, Nat.le_refl _, fun _ _ _ => rfl⟩ (.inl rfl))
    simpa using hown
theorem putP_fst {α β : Type} {acc : List (ByteArray × α)} {acc' : List (ByteArray × β)} {key : ByteArray} {x : α} {y : β} (h : acc.map Prod.fst = acc'.map Prod.fst) : (putP acc (key, x)).map Prod.fst = (putP acc' (key, y)).map Prod.fst := by
  simp only [putP, List.map_append, List.map_take, List.map_cons, List.map_drop, h]
theorem putP_rel {α β : Type} {R : (ByteArray × α) → (ByteArray × β) → Prop} {acc : List (ByteArray × α)} {acc' : List (ByteArray × β)} {key : ByteArray} {x : α} {y : β} (h : acc.map Prod.fst = acc'.map Prod.fst)
    (hr : ∀ (j : Nat) p v, acc[j]? = some p → acc'[j]? = some v → R p v) (hx : R (key, x) (key, y)) : ∀ (j : Nat) p v, (putP acc (key, x))[j]? = some p → (putP acc' (key, y))[j]? = some v → R p v := by
  intro j p v hp hv
  have hl : acc.length = acc'.length := by simpa using congrArg List.length h
  have hk := plc_le key (acc'.map Prod.fst)
  simp only [List.length_map] at hk
  simp only [putP, h] at hp hv
  generalize plc (acc'.map Prod.fst) key = k at hp hv hk
  have l1 : (acc.take k).length = k := by rw [List.length_take]; omega
  have l2 : (acc'.take k).length = k := by rw [List.length_take]; omega
  by_cases h1 : j < k
  · rw [List.getElem?_append_left (by omega), List.getElem?_take_of_lt h1] at hp hv
    exact hr j p v hp hv
  · rw [List.getElem?_append_right (by omega), l1] at hp
    rw [List.getElem?_append_right (by omega), l2] at hv
    rcases hj : j - k with _ | m
    · rw [hj] at hp hv
      simp at hp hv
      subst hp
      subst hv
      exact hx
    · rw [hj] at hp hv
      simp only [List.getElem?_cons_succ, List.getElem?_drop] at hp hv
      exact hr _ p v hp hv
theorem flat_split {k : Nat} (vs : List (ByteArray × Hd)) : (vs.take k).flatMap pcells ++ (vs.drop k).flatMap pcells = vs.flatMap pcells := by
  rw [← List.flatMap_append, List.take_append_drop]
theorem flat_len (vs : List (ByteArray × Hd)) : (vs.flatMap pcells).length = vs.length * 6 := by
  induction vs with
  | nil => rfl
  | cons x r ih => rw [List.flatMap_cons, List.length_append, ih, pcells_len, List.length_cons]; omega
theorem flat_one (vs : List (ByteArray × Hd)) : ∀ u ∈ vs.flatMap pcells, u.oneCell' = true := by
  intro u hu
  obtain ⟨x, _, hx⟩ := List.mem_flatMap.1 hu
  simp only [pcells, Hd.cells, List.mem_cons, List.not_mem_nil, or_false] at hx
  rcases hx with rfl | rfl | rfl | rfl | rfl | rfl <;> rfl
/-- The cells of a beginning, of a rest. -/
theorem flat_take_at {vs : List (ByteArray × Hd)} {k j : Nat} {u : Value} (h : ((vs.take k).flatMap pcells)[j]? = some u) : (vs.flatMap pcells)[j]? = some u := by
  rw [← flat_split (k := k) vs, List.getElem?_append_left (List.getElem?_eq_some_iff.1 h).1]
  exact h
theorem flat_drop_at {vs : List (ByteArray × Hd)} {k j : Nat} {u : Value} (hk : k ≤ vs.length) (h : ((vs.drop k).flatMap pcells)[j]? = some u) : (vs.flatMap pcells)[k * 6 + j]? = some u := by
  have l1 : ((vs.take k).flatMap pcells).length = k * 6 := by rw [flat_len, List.length_take]; congr 1; omega
  rw [← flat_split (k := k) vs, List.getElem?_append_right (by omega), l1]
  rw [show k * 6 + j - k * 6 = j by omega]
  exact h
theorem LoopG.len {wd wr : World} {W i : Nat} {hw : Hd} {qs : List (ByteArray × Va)} {vs : List (ByteArray × Hd)} {F' : Option Addr} {d' : Nat} (H : LoopG wd W hw qs i wr vs F' d') : vs.length = i := by
  have h := congrArg List.length H.keys
  rw [List.length_map, List.length_map, srtP_length, List.length_take] at h
  have := H.hi
  omega
/-- A round of the pairs' loop. -/
theorem LoopG.step {wd wr wp wq w3 : World} {W i g cap P d' : Nat} {hw : Hd} {qs : List (ByteArray × Va)} {vs : List (ByteArray × Hd)} {F' : Option Addr} {key : ByteArray} {y : Va} {h' : Hd}
    (H : LoopG wd W hw qs i wr vs F' d') (hW : W < wd.heap.size) (hx : qs[i]? = some (key, y)) (HA : AftP wr P key y h' wp) (hq : Below wp.heap.size wp wq) (h3 : Below wq.heap.size wq w3)
    (hown : w3.ownsRow wq.heap.size 36 6 (.slice (some ⟨g, 0, none⟩) (i + 1) cap) (i + 1) ((putP vs (key, h')).flatMap pcells)) :
    LoopG wd W hw qs (i + 1) (w3.setCell ⟨W, 4, none⟩ (.slice (some ⟨g, 0, none⟩) (i + 1) cap)) (putP vs (key, h')) (some ⟨g, 0, none⟩) cap := by
  have hil : i < qs.length := (List.getElem?_eq_some_iff.1 hx).1
  have s1 := H.kp.size
  have s2 := HA.bel.size
  have s3 := hq.size
  have s4 := h3.size
  have hall : Below wr.heap.size wr w3 := HA.bel.trans ((hq.mono s2).trans (h3.mono (by omega)))
  have hg := own_lo hown (g := g) rfl
  have hgW : g ≠ W := by omega
  have set_blk : ∀ b, b ≠ W → (w3.setCell ⟨W, 4, none⟩ (.slice (some ⟨g, 0, none⟩) (i + 1) cap)).heap[b]? = w3.heap[b]? := fun b hb => Below.heap_setCell _ _ _ _ hb
  refine ⟨by omega, ?_, ?_, ?_, ?_, ?_⟩
  · refine Kp.setN ⟨H.kp.bel.trans (hall.mono (by omega)), by omega, fun k a1 a2 => ?_⟩ _
    rw [hall.block k (by omega)]
    exact H.kp.block k a1 a2
  · have h0 : w3.rowIs W 25 5 (hdAt ⟨hw.k, hw.n, hw.s, hw.A, hw.la, hw.lc, F', i, d'⟩) := rowIs_below' (B := 0) H.row (hall.block W (by omega))
    refine (h0.set 4 _).congr (fun j hj => ?_)
    match j, hj with
    | 0, _ => rfl
    | 1, _ => rfl
    | 2, _ => rfl
    | 3, _ => rfl
    | 4, _ => rfl
  · refine own_base (own_block hown fun b hb => set_blk b ?_) (by omega)
    simp only [Value.ownBlock, Option.some.injEq] at hb
    omega
  · rw [srtP_step hx]
    exact putP_fst H.keys
  · rw [srtP_step hx]
    refine putP_rel (R := fun p v => Lies _ _ p.2 v.2) H.keys.symm (fun j p v hp hv => ?_) ?_
    · refine Lies.keep (fun q (a1 : wd.heap.size ≤ q.block) a2 => World.cell?_of_block ?_) (fun b hb _ => hb) _ _ (H.lie j p v hp hv)
      rw [set_blk _ (by omega)]
      exact hall.block _ a2
    · refine Lies.keep (fun q (a1 : wr.heap.size ≤ q.block) a2 => World.cell?_of_block ?_) (fun b (a1 : wr.heap.size ≤ b) _ => ?_) _ _ HA.lie
      · rw [set_blk _ (by omega), h3.block _ (by omega), hq.block _ a2]
      · show wd.heap.size ≤ b
        omega
/-- What the round's statements read, behind the search. -/
theorem put_flat {vs : List (ByteArray × Hd)} {key : ByteArray} {h' : Hd} {k : Nat} (hk : k = plc (vs.map Prod.fst) key) : ([] ++ (vs.take k).flatMap pcells ++ pcells (key, h') ++ (vs.drop k).flatMap pcells) = (putP vs (key, h')).flatMap pcells := by
  subst hk
  simp [putP, List.flatMap_append, List.flatMap_cons, List.append_assoc]
theorem aft_cells {wr wp wq w1 : World} {P : Nat} {key : ByteArray} {y : Va} {h' : Hd} (HA : AftP wr P key y h' wp) (hq : Below wp.heap.size wp wq) (hg : wq.grownBy w1 none) :
    w1.cell? ⟨P, 0, none⟩ = some (.string key) ∧ w1.cell? ⟨P, 1, none⟩ = some (.int .i64 h'.k) ∧ w1.cell? ⟨P, 2, none⟩ = some (.int .i64 h'.n) ∧ w1.cell? ⟨P, 3, none⟩ = some (.string h'.s) ∧ w1.cell? ⟨P, 4, none⟩ = some (.slice h'.A h'.la h'.lc) ∧ w1.cell? ⟨P, 5, none⟩ = some (.slice h'.F h'.lf h'.fc) := by
  have hlt := HA.lt
  have hs := hq.size
  have hb : w1.heap[P]? = wp.heap[P]? := (hg.block P (by omega) (by simp)).trans (hq.block P hlt)
  have hc : ∀ (j : Nat) c, (pcells (key, h'))[j]? = some c → w1.cell? ⟨P, j, none⟩ = some c := fun j c hj => (World.cell?_of_block (a := ⟨P, j, none⟩) hb).trans (HA.cel j c hj)
  exact ⟨hc 0 _ rfl, hc 1 _ rfl, hc 2 _ rfl, hc 3 _ rfl, hc 4 _ rfl, hc 5 _ rfl⟩
theorem grow_two {wq w1 w2 : World} {o : Obj} {v1 : Value} (g1 : wq.grownBy w1 none) (a1 : v1.ownBlock = none ∨ v1.ownBlock = some wq.heap.size) (g2 : (w1.alloc o).grownBy w2 v1.ownBlock) : Below wq.heap.size wq w2 := by
  have hb1 : Below wq.heap.size wq w1 := (Below.refl _ _).grown g1 (Nat.le_refl _) (fun k hk => by cases hk)
  refine (hb1.alloc g1.size o).grown g2 (by have := g1.size; simp; omega) (fun k hk => ?_)
  rcases a1 with e | e
  · rw [e] at hk; cases hk
  · rw [e] at hk
    cases hk
    exact Nat.le_refl _
theorem grow_three {wq w1 w2 w3 : World} {o : Obj} {v1 v2 : Value} (g1 : wq.grownBy w1 none) (a1 : v1.ownBlock = none ∨ v1.ownBlock = some wq.heap.size) (g2 : (w1.alloc o).grownBy w2 v1.ownBlock) (a2 : v2.ownBlock = v1.ownBlock ∨ v2.ownBlock = some (w1.alloc o).heap.size) (g3 : w2.grownBy w3 v2.ownBlock) : Below wq.heap.size wq w3 := by
  have h2 := grow_two g1 a1 g2
  refine h2.grown g3 h2.size (fun k hk => ?_)
  rcases a2 with e | e
  · rw [e] at hk
    rcases a1 with e | e
    · rw [e] at hk; cases hk
    · rw [e] at hk
      cases hk
      exact Nat.le_refl _
  · rw [e] at hk
    cases hk
    have := g1.size
    simp
    omega
/-- What is read of the old row behind the search. -/
theorem old_cells {wd wr wp wq w1 : World} {W i P d' : Nat} {hw : Hd} {qs : List (ByteArray × Va)} {vs : List (ByteArray × Hd)} {ad : Addr} {key : ByteArray} {y : Va} {h' : Hd} (H : LoopG wd W hw qs i wr vs (some ad) d') (HA : AftP wr P key y h' wp) (hq : Below wp.heap.size wp wq) (h1 : Below wq.heap.size wq w1) :
    ∀ j u, (vs.flatMap pcells)[j]? = some u → w1.cell? (ad.add j) = some u := fun j u hj => by
  have hlt := HA.bel.size
  have hs := hq.size
  have hc : wr.cell? (ad.add j) = some u := by
    rcases H.own.2 with ⟨hv, _⟩ | ⟨g, cap, cur, hv, _⟩
    · cases hv
    · cases hv
      exact H.own.cells rfl j u hj
  have hb := World.block_lt_of_cell? _ _ hc
  rw [h1.cell (p := ad.add j) (by omega), hq.cell (p := ad.add j) (by omega), HA.bel.cell (p := ad.add j) hb]
  exact hc
theorem old_F {wd wr wp wq w1 : World} {W i P d' : Nat} {hw : Hd} {qs : List (ByteArray × Va)} {vs : List (ByteArray × Hd)} {F' : Option Addr} {key : ByteArray} {y : Va} {h' : Hd} (H : LoopG wd W hw qs i wr vs F' d') (HA : AftP wr P key y h' wp) (hq : Below wp.heap.size wp wq) (h1 : Below wq.heap.size wq w1) :
    w1.cell? ⟨W, 4, none⟩ = some (.slice F' i d') ∧ w1.frozen? ⟨W, 4, none⟩ = false := by
  have hlt := HA.bel.size
  have hs := hq.size
  have hW := H.row.lt
  have hb : w1.heap[W]? = wr.heap[W]? := by rw [h1.block W (by omega), hq.block W (by omega), HA.bel.block W hW]
  exact ⟨(World.cell?_of_block (a := ⟨W, 4, none⟩) hb).trans (H.row.cell (show 4 < 5 by decide)), (World.frozen?_of_block (a := ⟨W, 4, none⟩) hb).trans (H.row.frozen 4)⟩
theorem own_cap {w : World} {base : Nat} {e : TypeId} {size n c : Nat} {A : Option Addr} {xs : List Value} (h : w.ownsRow base e size (.slice A n c) n xs) : n ≤ c ∧ c ≤ maxLen := by
  rcases h.2 with ⟨hv, h0⟩ | ⟨g, cap, cur, hv, _, _, h1, h2, _⟩
  · cases hv
    exact ⟨Nat.le_refl _, by decide⟩
  · cases hv
    exact ⟨h1, h2⟩
theorem own_none {w : World} {base : Nat} {e : TypeId} {size n c : Nat} {xs : List Value} (h : w.ownsRow base e size (.slice none n c) n xs) : n = 0 ∧ c = 0 := by
  rcases h.2 with ⟨hv, h0⟩ | ⟨g, cap, cur, hv, _⟩
  · cases hv
    exact ⟨rfl, rfl⟩
  · cases hv
theorem mem_putP {α : Type} {acc : List (ByteArray × α)} {p x : ByteArray × α} (h : x ∈ putP acc p) : x = p ∨ x ∈ acc := by
  simp only [putP, List.mem_append, List.mem_cons] at h
  rcases h with h | h | h
  · exact .inr (List.mem_of_mem_take h)
  · exact .inl h
  · exact .inr (List.mem_of_mem_drop h)
theorem mem_foldP {α : Type} {x : ByteArray × α} : ∀ (ps acc : List (ByteArray × α)), x ∈ ps.foldl putP acc → x ∈ acc ∨ x ∈ ps
  | [], acc, h => .inl h
  | p :: r, acc, h => by
    rw [List.foldl_cons] at h
    rcases mem_foldP r _ h with h | h
    · rcases mem_putP h with rfl | h
      · exact .inr (List.mem_cons_self ..)
      · exact .inl h
    · exact .inr (List.mem_cons_of_mem _ h)
theorem mem_srtP {α : Type} {x : ByteArray × α} {ps : List (ByteArray × α)} (h : x ∈ srtP ps) : x ∈ ps := by
  rcases mem_foldP ps [] h with h | h
  · simp at h
  · exact h
theorem zip_pairs {α β : Type} : ∀ (vs : List (α × β)), (vs.map Prod.fst).zip (vs.map Prod.snd) = vs
  | [] => rfl
  | x :: r => by simp [zip_pairs r]
/-- The end of Sorted: what was made lies. -/
theorem srt_done {w wc wd wr : World} {W : Nat} {hk hnn : Int} {hs : ByteArray} {l : List Va} {ks : List ByteArray} {f : List Va} {A' F' : Option Addr} {c' d' : Nat} {us : List Hd} {vs : List (ByteArray × Hd)} {h0 : Hd} {S : Nat → Prop}
    (H0 : Lies w S (.mk hk hnn hs l ks f) h0) (HL : LoopA wc W hk hnn hs (srtL l) l.length wd us A' c') (HG : LoopG wd W ⟨hk, hnn, hs, A', l.length, c', none, 0, 0⟩ (ks.zip (srtL f)) f.length wr vs F' d') (hW : W < wc.heap.size) :
    Lies wr (fun b => wc.heap.size ≤ b) (Va.mk hk hnn hs l ks f).srt ⟨hk, hnn, hs, A', l.length, c', F', f.length, d'⟩ := by
  simp only [Lies] at H0
  obtain ⟨⟨_, _, _, _, _, e6⟩, ⟨b1, b2, b3, b4, b5, b6, _, _⟩, _, _⟩ := H0
  have hzl : (ks.zip (srtL f)).length = f.length := by rw [List.length_zip, srtL_length, e6, Nat.min_self]
  have htk : (ks.zip (srtL f)).take f.length = ks.zip (srtL f) := List.take_of_length_le (by omega)
  have hkeys := HG.keys
  have hlie := HG.lie
  have hvl := HG.len
  rw [htk] at hkeys hlie
  have s1 := HL.kp.size
  have s2 := HG.kp.size
  have hmem : ∀ x ∈ (srtP (ks.zip (srtL f))).map Prod.fst, x.size ≤ maxLen := fun x hx => by
    obtain ⟨p, hp, rfl⟩ := List.mem_map.1 hx
    exact b4 _ (List.of_mem_zip (mem_srtP hp)).1
  have hsl : (srtP (ks.zip (srtL f))).length = f.length := by rw [srtP_length, hzl]
  have c1 := (own_cap HL.own).1
  have c2 := (own_cap HG.own).1
  unfold Va.srt
  simp only [Lies]
  refine ⟨⟨trivial, trivial, trivial, (srtL_length l).symm, by rw [List.length_map, hsl], by rw [List.length_map, List.length_map]⟩, ⟨b1, b2, b3, hmem, by rw [srtL_length]; exact b5, by rw [List.length_map, hsl]; exact b6, by rw [srtL_length]; exact c1, by rw [List.length_map, hsl]; exact c2⟩, ⟨us, ?_, ?_⟩, ⟨vs.map Prod.snd, ?_, ?_⟩⟩
  · refine row_of_own Hd.cells us cells_len (own_block HL.own fun g hg => ?_) (fun g hg => (own_lo HL.own hg).1) (.inr (by decide))
    have := own_lo HL.own hg
    exact HG.kp.block g (by omega) (by omega)
  · have htl : (srtL l).take l.length = srtL l := List.take_of_length_le (by rw [srtL_length]; omega)
    have hp := HL.part
    rw [htl] at hp
    refine LiesL_mk hp.len fun i x u hx hu => Lies.keep (fun q (a1 : wc.heap.size ≤ q.block ∧ _) a2 => World.cell?_of_block ?_) (fun b hb _ => hb.1) _ _ (hp.lie i x u hx hu)
    have := a1.1
    exact HG.kp.block _ (by omega) a2
  · rw [← hkeys, zip_pairs]
    refine row_of_own pcells vs pcells_len HG.own (fun g hg => ?_) (.inr (by decide))
    have := (own_lo HG.own hg).1
    show wc.heap.size ≤ g
    omega
  · refine LiesL_mk (by rw [List.length_map, List.length_map, hvl, hsl]) fun i x u hx hu => ?_
    rw [List.getElem?_map, Option.map_eq_some_iff] at hx hu
    obtain ⟨p, hp, rfl⟩ := hx
    obtain ⟨v, hv, rfl⟩ := hu
    exact Lies.keep (fun _ _ _ => rfl) (fun b (hb : wd.heap.size ≤ b) _ => (show wc.heap.size ≤ b by omega)) _ _ (hlie i p v hp hv)
end Go.Proofs.Ytmdlcalnncncjaa

/- Values with their pairs by their keys: what is sorted is one; plain. -/
set_option linter.unusedVariables false
set_option linter.unusedSimpArgs false
namespace Go.Proofs.Ytmdlcalnncncjaa
open Go.RowKit
theorem bytesLess_lt : ∀ (x y : List UInt8), Op.bytesLess x y = decide (x < y)
  | [], [] => by simp [Op.bytesLess]
  | _ :: _, [] => by simp [Op.bytesLess]
  | [], _ :: _ => by simp [Op.bytesLess]
  | a :: x, b :: y => by
    rw [Op.bytesLess, bytesLess_lt x y]
    simp only [List.cons_lt_cons_iff]
    by_cases h1 : a < b <;> by_cases h2 : a = b <;> by_cases h3 : x < y <;> simp [h1, h2, h3]
theorem lessB_irrefl (x : ByteArray) : lessB x x = false := by simp [lessB, bytesLess_lt, List.lt_irrefl]
theorem lessB_trans {x y z : ByteArray} (h1 : lessB x y = true) (h2 : lessB y z = true) : lessB x z = true := by
  simp only [lessB, bytesLess_lt, decide_eq_true_eq] at *
  exact List.lt_trans h1 h2
theorem lessB_ntrans {x y z : ByteArray} (h1 : lessB x y = false) (h2 : lessB y z = false) : lessB x z = false := by
  simp only [lessB, bytesLess_lt, decide_eq_false_iff_not, List.not_lt] at *
  exact List.le_trans h2 h1
theorem lessB_one {x y : ByteArray} (h1 : lessB x y = false) (h2 : lessB y x = false) : x = y := by
  simp only [lessB, bytesLess_lt, decide_eq_false_iff_not, List.not_lt] at *
  have h := List.le_antisymm h2 h1
  refine Classical.byContradiction fun hne => ?_
  have := bytes_ne hne
  rw [h] at this
  simp at this
theorem lessB_asymm {x y : ByteArray} (h1 : lessB x y = true) : lessB y x = false := by
  cases h : lessB y x
  · rfl
  · have := lessB_trans h1 h
    rw [lessB_irrefl] at this
    cases this
theorem putP_perm {α : Type} (acc : List (ByteArray × α)) (p : ByteArray × α) : (putP acc p).Perm (p :: acc) := by
  unfold putP
  refine List.perm_middle.trans ?_
  rw [List.take_append_drop]
theorem foldP_perm {α : Type} : ∀ (ps acc : List (ByteArray × α)), (ps.foldl putP acc).Perm (acc ++ ps)
  | [], acc => by simp
  | p :: r, acc => by
    rw [List.foldl_cons]
    refine (foldP_perm r (putP acc p)).trans ?_
    refine ((putP_perm acc p).append_right r).trans ?_
    rw [List.cons_append]
    exact List.perm_middle.symm
theorem srtP_perm {α : Type} (ps : List (ByteArray × α)) : (srtP ps).Perm ps := by
  have := foldP_perm ps []
  rwa [List.nil_append] at this
/-- By rising keys. -/
def Rise {α : Type} (ps : List (ByteArray × α)) : Prop := ps.Pairwise fun p q => lessB p.1 q.1 = true
theorem plc_all {key : ByteArray} : ∀ {ks : List ByteArray} {x : ByteArray}, x ∈ ks.take (plc ks key) → lessB x key = true
  | [], x, h => by simp [plc] at h
  | y :: r, x, h => by
    simp only [plc] at h
    split at h
    · rename_i hy
      rw [List.take_succ_cons, List.mem_cons] at h
      rcases h with rfl | h
      · exact hy
      · exact plc_all h
    · simp at h
theorem plc_head {key : ByteArray} : ∀ {ks : List ByteArray} {x : ByteArray}, ks[plc ks key]? = some x → lessB x key = false
  | [], x, h => by simp [plc] at h
  | y :: r, x, h => by
    simp only [plc] at h
    split at h
    · exact plc_head (by simpa using h)
    · rename_i hy
      simp at h
      subst h
      simpa using hy
theorem putP_rise {α : Type} {acc : List (ByteArray × α)} {p : ByteArray × α} (h : Rise acc) (hn : p.1 ∉ acc.map Prod.fst) : Rise (putP acc p) := by
  unfold Rise putP at *
  have hk := plc_le p.1 (acc.map Prod.fst)
  generalize hkk : plc (acc.map Prod.fst) p.1 = k at *
  have ha : ∀ x ∈ acc.take k, lessB x.1 p.1 = true := fun x hx => by
    refine plc_all (ks := acc.map Prod.fst) ?_
    rw [hkk, ← List.map_take]
    exact List.mem_map_of_mem hx
  have hsp := h
  rw [← List.take_append_drop k acc, List.pairwise_append] at hsp
  obtain ⟨h1, h2, h3⟩ := hsp
  have hb : ∀ x ∈ acc.drop k, lessB p.1 x.1 = true := by
    cases hd : acc.drop k with
    | nil => simp
    | cons y r =>
      have hy0 : acc[k]? = some y := by
        have := congrArg (·[0]?) hd
        simpa [List.getElem?_drop] using this
      have hy1 : lessB y.1 p.1 = false := plc_head (ks := acc.map Prod.fst) (by rw [hkk, List.getElem?_map, hy0]; rfl)
      have hy : lessB p.1 y.1 = true := by
        cases hq : lessB p.1 y.1
        · refine absurd ?_ hn
          rw [lessB_one hq hy1]
          exact List.mem_map_of_mem (List.mem_of_getElem? hy0)
        · rfl
      intro x hx
      rcases List.mem_cons.1 hx with rfl | hx
      · exact hy
      · rw [hd, List.pairwise_cons] at h2
        exact lessB_trans hy (h2.1 x hx)
  rw [List.pairwise_append, List.pairwise_cons]
  refine ⟨h1, ⟨hb, h2⟩, fun x hx y hy => ?_⟩
  rcases List.mem_cons.1 hy with rfl | hy
  · exact ha x hx
  · exact h3 x hx y hy
theorem foldP_rise {α : Type} : ∀ (ps acc : List (ByteArray × α)), Rise acc → ((acc ++ ps).map Prod.fst).Nodup → Rise (ps.foldl putP acc)
  | [], acc, h, _ => h
  | p :: r, acc, h, hn => by
    rw [List.foldl_cons]
    refine foldP_rise r _ (putP_rise h ?_) ?_
    · rw [List.map_append, List.map_cons, List.nodup_append] at hn
      intro hm
      exact hn.2.2 _ hm _ (List.mem_cons_self ..) rfl
    · refine (List.Perm.nodup_iff ?_).2 hn
      refine List.Perm.map _ ?_
      refine ((putP_perm acc p).append_right r).trans ?_
      rw [List.cons_append]
      exact List.perm_middle.symm
theorem srtP_rise {α : Type} {ps : List (ByteArray × α)} (hn : (ps.map Prod.fst).Nodup) : Rise (srtP ps) := foldP_rise ps [] List.Pairwise.nil (by simpa using hn)
/-- Two orders by rising keys are one. -/
theorem rise_one {α : Type} : ∀ {l m : List (ByteArray × α)}, l.Perm m → Rise l → Rise m → l = m
  | [], m, hp, _, _ => (List.Perm.nil_eq hp)
  | a :: t, [], hp, _, _ => by simpa using hp.symm.nil_eq
  | a :: t, b :: r, hp, hl, hm => by
    unfold Rise at hl hm
    rw [List.pairwise_cons] at hl hm
    have h1 : a ∈ b :: r := hp.mem_iff.1 (List.mem_cons_self ..)
    have h2 : b ∈ a :: t := hp.mem_iff.2 (List.mem_cons_self ..)
    obtain rfl : a = b := by
      rcases List.mem_cons.1 h1 with rfl | h1
      · rfl
      · rcases List.mem_cons.1 h2 with rfl | h2
        · rfl
        · have q1 := hm.1 a h1
          have q2 := lessB_asymm (hl.1 b h2)
          rw [q1] at q2
          cases q2
    rw [rise_one ((List.perm_cons a).1 hp) hl.2 hm.2]
/-- What sorts by keys sorts as the reference does. -/
theorem sort_one {α : Type} {ps qs : List (ByteArray × α)} (hp : qs.Perm ps) (hr : Rise qs) (hn : (ps.map Prod.fst).Nodup) : qs = srtP ps :=
  rise_one (hp.trans (srtP_perm ps).symm) hr (srtP_rise hn)
theorem cntL_perm : ∀ {l m : List Va}, l.Perm m → cntL l = cntL m := by
  intro l m h
  induction h with
  | nil => rfl
  | cons x _ ih => simp only [cntL]; omega
  | swap x y l => simp only [cntL]; omega
  | trans _ _ h1 h2 => exact h1.trans h2
theorem RL_all {l : List Va} {d : Nat} : RL l d ↔ ∀ x ∈ l, x.R d := by
  induction l with
  | nil => simp [RL]
  | cons x r ih => simp [RL, ih]
theorem ShL_all {l : List Va} : ShL l ↔ ∀ x ∈ l, x.Sh := by
  induction l with
  | nil => simp [ShL]
  | cons x r ih => simp [ShL, ih]
theorem zip_fst {α β : Type} : ∀ {ks : List α} {f : List β}, ks.length = f.length → (ks.zip f).map Prod.fst = ks
  | [], f, h => rfl
  | x :: r, [], h => by simp at h
  | x :: r, y :: f, h => by simp [zip_fst (ks := r) (f := f) (by simpa using h)]
theorem zip_snd {α β : Type} : ∀ {ks : List α} {f : List β}, ks.length = f.length → (ks.zip f).map Prod.snd = f
  | [], [], h => rfl
  | [], y :: f, h => by simp at h
  | x :: r, [], h => by simp at h
  | x :: r, y :: f, h => by simp [zip_snd (ks := r) (f := f) (by simpa using h)]
theorem srt_keys {ks : List ByteArray} {f : List Va} (h : ks.length = f.length) : ((srtP (ks.zip f)).map Prod.fst).Perm ks ∧ ((srtP (ks.zip f)).map Prod.snd).Perm f := by
  have h1 := (srtP_perm (ks.zip f)).map Prod.fst
  have h2 := (srtP_perm (ks.zip f)).map Prod.snd
  rw [zip_fst h] at h1
  rw [zip_snd h] at h2
  exact ⟨h1, h2⟩
/-- Keys and values are as many, throughout. -/
def Va.Ev : Va → Prop
  | .mk _ _ _ l ks f => ks.length = f.length ∧ (∀ x ∈ l, x.Ev) ∧ (∀ x ∈ f, x.Ev)
theorem srt_all (a : Va) : a.Ev → a.srt.cnt = a.cnt ∧ (a.Sh → a.srt.Sh) ∧ (∀ d, a.R d → a.srt.R d) := by
  induction a using Va.ind with
  | h k n s l ks f ihl ihf =>
    intro hev
    simp only [Va.Ev] at hev
    obtain ⟨he, hl, hf⟩ := hev
    have hev2 : ks.length = (srtL f).length := by rw [srtL_length]; exact he
    obtain ⟨p1, p2⟩ := srt_keys hev2
    have cl : ∀ m : List Va, (∀ x ∈ m, x.srt.cnt = x.cnt) → cntL (srtL m) = cntL m := by
      intro m
      induction m with
      | nil => intro _; rfl
      | cons x r ih =>
        intro h
        simp only [srtL, cntL]
        rw [h x (List.mem_cons_self ..), ih fun y hy => h y (List.mem_cons_of_mem _ hy)]
    refine ⟨?_, fun hsh => ?_, fun d hr => ?_⟩
    · simp only [Va.srt, Va.cnt]
      rw [cntL_perm p2, cl l fun x hx => (ihl x hx (hl x hx)).1, cl f fun x hx => (ihf x hx (hf x hx)).1]
    · simp only [Va.srt, Va.Sh] at hsh ⊢
      refine ⟨hsh.1, ?_, fun x hx => hsh.2.2.1 x (p1.mem_iff.1 hx), ?_⟩
      · rw [ShL_all, srtL_map]
        intro x hx
        obtain ⟨y, hy, rfl⟩ := List.mem_map.1 hx
        exact (ihl y hy (hl y hy)).2.1 (ShL_all.1 hsh.2.1 y hy)
      · rw [ShL_all]
        intro x hx
        have hx2 := p2.mem_iff.1 hx
        rw [srtL_map] at hx2
        obtain ⟨y, hy, rfl⟩ := List.mem_map.1 hx2
        exact (ihf y hy (hf y hy)).2.1 (ShL_all.1 hsh.2.2.2 y hy)
    · simp only [Va.srt, Va.R] at hr ⊢
      obtain ⟨h1, h2, h3, h4, h5⟩ := hr
      refine ⟨h1, ?_, ⟨fun x hx => h3.1 x (p1.mem_iff.1 hx), p1.nodup_iff.2 h3.2⟩, ?_, ?_⟩
      · rw [srtL_length, p2.length_eq, srtL_length]
        exact h2
      · rw [RL_all, srtL_map]
        intro x hx
        obtain ⟨y, hy, rfl⟩ := List.mem_map.1 hx
        exact (ihl y hy (hl y hy)).2.2 _ (RL_all.1 h4 y hy)
      · rw [RL_all]
        intro x hx
        have hx2 := p2.mem_iff.1 hx
        rw [srtL_map] at hx2
        obtain ⟨y, hy, rfl⟩ := List.mem_map.1 hx2
        exact (ihf y hy (hf y hy)).2.2 _ (RL_all.1 h5 y hy)
theorem lies_ev {w : World} (a : Va) : ∀ (S : Nat → Prop) (h : Hd), Lies w S a h → a.Ev := by
  induction a using Va.ind with
  | h k n s l ks f ihl ihf =>
    intro S h H
    simp only [Lies] at H
    obtain ⟨⟨_, _, _, _, _, e6⟩, _, ⟨us, _, h1⟩, ⟨vs, _, h2⟩⟩ := H
    simp only [Va.Ev]
    refine ⟨e6, fun x hx => ?_, fun x hx => ?_⟩
    · obtain ⟨i, hi⟩ := List.mem_iff_getElem?.1 hx
      obtain ⟨u, _, hu⟩ := LiesL_at h1 hi
      exact ihl x hx S u hu
    · obtain ⟨i, hi⟩ := List.mem_iff_getElem?.1 hx
      obtain ⟨u, _, hu⟩ := LiesL_at h2 hi
      exact ihf x hx S u hu
end Go.Proofs.Ytmdlcalnncncjaa

/- Pairs in the order of keys: once more, sorted, right; plain. -/
set_option linter.unusedVariables false
set_option linter.unusedSimpArgs false
namespace Go.Proofs.Ytmdlcalnncncjaa
open Go.RowKit
theorem fnd_key {ps : List (ByteArray × Va)} {key : ByteArray} {q : ByteArray × Va} (h : fnd ps key = some q) : q ∈ ps ∧ q.1 = key := by
  have h1 := List.find?_some h
  simp only [decide_eq_true_eq] at h1
  exact ⟨List.mem_of_find?_eq_some h, h1⟩
theorem fm_congr {α β : Type} {f g : α → Option β} : ∀ {l : List α}, (∀ x ∈ l, f x = g x) → l.filterMap f = l.filterMap g
  | [], _ => rfl
  | x :: r, h => by
    rw [List.filterMap_cons, List.filterMap_cons, h x (by simp), fm_congr fun y hy => h y (by simp [hy])]
theorem fnd_first (ps : List (ByteArray × Va)) (key : ByteArray) : ∀ keys : List ByteArray, key ∈ keys → fnd (keys.filterMap (fnd ps)) key = fnd ps key
  | k :: r, h => by
    by_cases e : k = key
    · subst e
      cases hf : fnd ps k with
      | none =>
        rw [List.filterMap_cons, hf]
        simp only
        rw [List.find?_eq_none]
        intro q hq
        obtain ⟨k2, -, hk2⟩ := List.mem_filterMap.1 hq
        simp only [decide_eq_true_eq]
        intro e2
        have h3 := fnd_key hk2
        have h4 := List.find?_eq_none.1 hf q h3.1
        simp [e2] at h4
      | some q =>
        rw [List.filterMap_cons, hf]
        simp only
        show List.find? _ (q :: _) = _
        rw [List.find?_cons_of_pos (by simpa using (fnd_key hf).2)]
    · have hr : key ∈ r := by
        rcases List.mem_cons.1 h with h | h
        · exact absurd h.symm e
        · exact h
      cases hf : fnd ps k with
      | none =>
        rw [List.filterMap_cons, hf]
        exact fnd_first ps key r hr
      | some q =>
        rw [List.filterMap_cons, hf]
        simp only
        show List.find? _ (q :: _) = _
        rw [List.find?_cons_of_neg (by simpa [(fnd_key hf).2] using e)]
        exact fnd_first ps key r hr
/-- Ordered again. -/
theorem ordL_again (keys : List ByteArray) (ps : List (ByteArray × Va)) : ordL keys (ordL keys ps) = ordL keys ps := by
  have hP : ∀ q ∈ keys.filterMap (fnd ps), q.1 ∈ keys := fun q hq => by
    obtain ⟨k, hk, hf⟩ := List.mem_filterMap.1 hq
    rw [(fnd_key hf).2]
    exact hk
  have e1 : keys.filterMap (fnd (ordL keys ps)) = keys.filterMap (fnd ps) := by
    refine fm_congr fun key hk => ?_
    have h1 := fnd_first ps key keys hk
    show List.find? _ (keys.filterMap (fnd ps) ++ ps.filter fun q : ByteArray × Va => (kIdx keys q.1).isNone) = _
    rw [List.find?_append]
    have h2 : List.find? (fun q : ByteArray × Va => decide (q.1 = key)) (ps.filter fun q : ByteArray × Va => (kIdx keys q.1).isNone) = none := by
      rw [List.find?_eq_none]
      intro q hq
      have h3 := (List.mem_filter.1 hq).2
      rw [Option.isNone_iff_eq_none, kIdx_none] at h3
      simp only [decide_eq_true_eq]
      exact fun e => h3 (by rw [e]; exact hk)
    rw [h2, Option.or_none]
    exact h1
  have e2 : (ordL keys ps).filter (fun q : ByteArray × Va => (kIdx keys q.1).isNone) = ps.filter fun q : ByteArray × Va => (kIdx keys q.1).isNone := by
    show (keys.filterMap (fnd ps) ++ ps.filter fun q : ByteArray × Va => (kIdx keys q.1).isNone).filter _ = _
    rw [List.filter_append, List.filter_filter]
    have h4 : (keys.filterMap (fnd ps)).filter (fun q : ByteArray × Va => (kIdx keys q.1).isNone) = [] := by
      rw [List.filter_eq_nil_iff]
      intro q hq h3
      rw [Option.isNone_iff_eq_none, kIdx_none] at h3
      exact h3 (hP q hq)
    rw [h4, List.nil_append]
    congr 1
    funext q
    simp
  show keys.filterMap (fnd (ordL keys ps)) ++ (ordL keys ps).filter (fun q : ByteArray × Va => (kIdx keys q.1).isNone) = _
  rw [e1, e2]
  rfl
theorem ordL_perm {keys : List ByteArray} {ps : List (ByteArray × Va)} (hk : keys.Nodup) (hn : (ps.map Prod.fst).Nodup) : (ordL keys ps).Perm ps := by
  let D : List Eo := (List.range ps.length).map fun i => match ps[i]? with
    | some q => ⟨q.1, ⟨0, 0, ByteArray.empty, none, 0, 0, none, 0, 0⟩, q.2, fun _ => False, i⟩
    | none => default
  have hD : ∀ (i : Nat) e, D[i]? = some e → ∃ q, ps[i]? = some q ∧ e = ⟨q.1, ⟨0, 0, ByteArray.empty, none, 0, 0, none, 0, 0⟩, q.2, fun _ => False, i⟩ := by
    intro i e he
    have hi : i < ps.length := by have := (List.getElem?_eq_some_iff.1 he).1; simpa [D] using this
    simp only [D, List.getElem?_map, List.getElem?_range hi, Option.map_some, List.getElem?_eq_getElem hi, Option.some.injEq] at he
    exact ⟨ps[i], List.getElem?_eq_getElem hi, he.symm⟩
  have hDl : D.length = ps.length := by simp [D]
  have hD2 : D.map (fun e => (e.key, e.x)) = ps := by
    apply List.ext_getElem?
    intro i
    by_cases hi : i < ps.length
    · obtain ⟨q, a, b⟩ := hD i D[i] (List.getElem?_eq_getElem (by omega))
      rw [List.getElem?_map, List.getElem?_eq_getElem (by omega), b, a]
      rfl
    · rw [List.getElem?_eq_none (by simp [hDl]; omega), List.getElem?_eq_none (by omega)]
  have hkk : D.map Eo.key = ps.map Prod.fst := by
    have h0 := congrArg (List.map Prod.fst) hD2
    rw [List.map_map] at h0
    exact h0
  have h := ordE_perm (keys := keys) (D := D) hk (by rw [hkk]; exact hn) (by
    rw [List.pairwise_iff_getElem]
    intro i j hi hj hij
    obtain ⟨q1, a1, b1⟩ := hD i D[i] (List.getElem?_eq_getElem hi)
    obtain ⟨q2, a2, b2⟩ := hD j D[j] (List.getElem?_eq_getElem hj)
    rw [b1, b2]
    exact hij)
  have h2 := h.map (fun e => (e.key, e.x))
  rwa [ordE_map, hD2] at h2
theorem srtP_same {α : Type} {ps qs : List (ByteArray × α)} (hp : qs.Perm ps) (hn : (ps.map Prod.fst).Nodup) : srtP qs = srtP ps :=
  sort_one ((srtP_perm qs).trans hp) (srtP_rise ((hp.map Prod.fst).nodup_iff.2 hn)) hn
theorem zip_srt : ∀ ps : List (ByteArray × Va), (ps.map Prod.fst).zip (srtL (ps.map Prod.snd)) = ps.map fun q => (q.1, q.2.srt)
  | [] => rfl
  | q :: r => by
    simp only [List.map_cons, srtL, List.zip_cons_cons, zip_srt r]
theorem zip_unzip {ks : List ByteArray} {f : List Va} (h : ks.length = f.length) : (ks.zip f).map Prod.fst = ks ∧ (ks.zip f).map Prod.snd = f :=
  ⟨List.map_fst_zip (by omega), List.map_snd_zip (by omega)⟩
theorem zipB {α β : Type} : ∀ us : List (α × β), (us.map Prod.fst).zip (us.map Prod.snd) = us
  | [] => rfl
  | (a, b) :: r => by simp [zipB r]
/-- What is ordered is right as it was. -/
theorem ord_all {keys : List ByteArray} {n : Int} {s : ByteArray} {l : List Va} {ks : List ByteArray} {f : List Va} {d : Nat} (hk : keys.Nodup) (hl : ks.length = f.length) (hr : (Va.mk 5 n s l ks f).R d) :
    (ordV keys (.mk 5 n s l ks f)).R d ∧ (ordV keys (.mk 5 n s l ks f)).cnt = (Va.mk 5 n s l ks f).cnt ∧ ((Va.mk 5 n s l ks f).Sh → (ordV keys (.mk 5 n s l ks f)).Sh) ∧ (ordV keys (.mk 5 n s l ks f)).srt = (Va.mk 5 n s l ks f).srt ∧ ordV keys (ordV keys (.mk 5 n s l ks f)) = ordV keys (.mk 5 n s l ks f) := by
  obtain ⟨rfl, rfl, rfl, hnd⟩ := obj_R hr
  obtain ⟨z1, z2⟩ := zip_unzip hl
  have hp := ordL_perm (keys := keys) (ps := ks.zip f) hk (by rw [z1]; exact hnd)
  have hp1 := hp.map Prod.fst
  have hp2 := hp.map Prod.snd
  rw [z1] at hp1
  rw [z2] at hp2
  refine ⟨?_, ?_, fun hs => ?_, ?_, ?_⟩
  · simp only [ordV, Va.R] at hr ⊢
    obtain ⟨h1, hT, hK, hL, hF⟩ := hr
    refine ⟨h1, ?_, ⟨fun x hx => hK.1 x (hp1.mem_iff.1 hx), hp1.nodup_iff.2 hK.2⟩, hL, ?_⟩
    · rw [show ((ordL keys (ks.zip f)).map Prod.snd).length = f.length from hp2.length_eq]
      exact hT
    · rw [RL_all] at hF ⊢
      exact fun x hx => hF x (hp2.mem_iff.1 hx)
  · simp only [ordV, Va.cnt, cntL_perm hp2]
  · simp only [ordV, Va.Sh] at hs ⊢
    refine ⟨hs.1, hs.2.1, fun x hx => hs.2.2.1 x (hp1.mem_iff.1 hx), ?_⟩
    have h2 := hs.2.2.2
    rw [ShL_all] at h2 ⊢
    exact fun x hx => h2 x (hp2.mem_iff.1 hx)
  · have e0 : srtP ((ordL keys (ks.zip f)).map fun q => (q.1, q.2.srt)) = srtP (ks.zip (srtL f)) := by
      have e1 := zip_srt (ks.zip f)
      rw [z1, z2] at e1
      rw [e1]
      refine srtP_same (hp.map _) ?_
      rw [List.map_map]
      show ((ks.zip f).map Prod.fst).Nodup
      rw [z1]
      exact hnd
    simp only [ordV, Va.srt, zip_srt, e0]
  · simp only [ordV, zipB, ordL_again]
end Go.Proofs.Ytmdlcalnncncjaa

/- path.member and path.follow. -/
set_option linter.unusedVariables false
set_option linter.unusedSimpArgs false
namespace Go.Proofs.Ytmdlcalnncncjaa
open Go.RowKit
theorem At3.start (w : World) (s : St) (t : TypeId) {N : Nat} (hN : N = w.heap.size) : At3 (w.alloc (Obj.cells #[.string s.k, .int .i64 s.a, .bool s.i] t)) ⟨N, 0, none⟩ s := by
  subst hN
  refine ⟨?_, ?_, ?_⟩
  · exact World.cell?_alloc_new ..
  · exact World.cell?_alloc_new ..
  · exact World.cell?_alloc_new ..
set_option maxHeartbeats 1000000 in
set_option maxRecDepth 100000 in
theorem member_any (a : Va) (S : Nat → Prop) (h : Hd) (w : World) (s : St) (H : Lies w S a h) (hs : StR s) (hcn : a.cnt ≤ 1000) :
    Calls Try.prog 124 #[h.val, .agg #[.string s.k, .int .i64 s.a, .bool s.i]] w fun e w' => e = .returned (.int .i64 (mI (subI a s))) ∧ Below w.heap.size w w' := by
  obtain ⟨k, n, t, l, ks, f⟩ := a
  have HOP := Lib.hid H.op
  simp only [Lies] at H
  obtain ⟨⟨e1, e2, e3, e4, e5, e6⟩, ⟨hkb, _⟩, -⟩ := H
  obtain ⟨hk, hnn, hss, A, la, lc, F, lf, fc⟩ := h
  simp only at e1 e2 e3 e4 e5 e6
  subst e1 e4
  have hlf : lf = ks.length := by omega
  subst hlf
  have hll : l.length ≤ 1000 := by have := len_le_cntL l; simp only [Va.cnt] at hcn; omega
  have hkl : ks.length ≤ 1000 := by have := len_le_cntL f; simp only [Va.cnt] at hcn; omega
  have HE6 := Lib.hid e6
  obtain ⟨sk, sa, si⟩ := s
  have hb2 := two_allocs w (Obj.cells #[.int .i64 hk, .int .i64 hnn, .string hss, .slice A l.length lc, .slice F ks.length fc] 25) (Obj.cells #[.string sk, .int .i64 sa, .bool si] 72)
  have HB2 := Lib.hid hb2
  clear hcn e2 e3 e5 e6
  unfold Hd.val at *
  simp only [subI]
  rcases hs with ⟨e, hk0, h0, hmax⟩ | ⟨e, h0, hr⟩
  · simp only at e hk0 h0 hmax
    subst e
    clear hb2
    rw [if_pos rfl]
    by_cases h4 : hk = 4
    · subst h4
      by_cases hlt : sa < (l.length : Int)
      · rw [if_pos ⟨rfl, hlt⟩]
        have hmi : mI (some sa.toNat) = sa := by show ((sa.toNat : Nat) : Int) = sa; omega
        rw [hmi]
        clear hmi
        go_enter Try.func124, Try.ntmps124
        go_wp2_with fail
        go_ret
        exact ⟨rfl, HB2.out⟩
      · rw [if_neg (fun q => hlt q.2)]
        simp only [mI]
        go_enter Try.func124, Try.ntmps124
        go_wp2_with fail
        go_ret
        exact ⟨rfl, HB2.out⟩
    · rw [if_neg (fun q => h4 q.1)]
      have h4' := bq_no h4
      simp only [mI]
      clear h4
      go_enter Try.func124, Try.ntmps124
      go_wp2_with fail
      go_ret
      exact ⟨rfl, HB2.out⟩
  · simp only at e h0 hr
    subst e h0
    rw [if_neg (by decide)]
    by_cases h5 : hk = 5
    · subst h5
      rw [if_pos rfl]
      have K := Lib.hid (pindex_any ks ⟨sk, 0, false⟩ F fc (w.heap.size + 1) _ hkl ((HOP.out.keys HE6.out).below hb2 (Nat.le_refl _)) rfl rfl (At3.start _ ⟨sk, 0, false⟩ 72 (by simp)))
      clear hb2
      generalize hmi : mI (kIdx ks sk) = mm
      have HMI := Lib.hid hmi
      clear hmi
      go_enter Try.func124, Try.ntmps124
      go_wp2_with fail
      refine K.out.mono ?_
      rintro e w1 ⟨m, rfl, hp, hb1⟩
      obtain rfl : m = mm := hp.kIdx.trans HMI.out
      have HB1 := Lib.hid (HB2.out.trans (hb1.mono HB2.out.size))
      clear hp hb1 K
      go_wp2_with fail
      go_ret
      exact ⟨rfl, HB1.out⟩
    · rw [if_neg h5]
      have h5' := bq_no h5
      simp only [mI]
      clear h5 hb2
      go_enter Try.func124, Try.ntmps124
      go_wp2_with fail
      go_ret
      exact ⟨rfl, HB2.out⟩
/-- What follow answers. -/
def FolR (S : Nat → Prop) (a : Va) (p : List St) (w : World) (e : Ending) (w' : World) : Prop := ∃ (b : Va) (h' : Hd) (ok : Bool), e = .returned (.tuple #[.agg #[.int .i64 h'.k, .int .i64 h'.n, .string h'.s, .slice h'.A h'.la h'.lc, .slice h'.F h'.lf h'.fc], .bool ok]) ∧ Below w.heap.size w w' ∧ Lies w' S b h' ∧
  ((ok = true ∧ goV a p = some b) ∨ (ok = false ∧ goV a p = none ∧ b = zeroVa ∧ h' = zeroHd))
theorem FolR.no {S : Nat → Prop} {a : Va} {p : List St} {w w' : World} (h : goV a p = none) (hb : Below w.heap.size w w') : FolR S a p w (.returned (.tuple #[.agg #[.int .i64 0, .int .i64 0, .string ⟨#[]⟩, .slice none 0 0, .slice none 0 0], .bool false])) w' :=
  ⟨zeroVa, zeroHd, false, rfl, hb, lies_zero _ _, .inr ⟨rfl, h, rfl, rfl⟩⟩
theorem PathAt.tail {w : World} {ad : Addr} {s : St} {p : List St} (h : PathAt w (Option.some ad) (s :: p)) : PathAt w (Option.some (ad.add 3)) p := by
  intro i t ht
  obtain ⟨ad', e, h1, h2, h3⟩ := h (i + 1) t (by simpa using ht)
  cases e
  have e2 : (ad.add 3).add (i * 3) = ad.add ((i + 1) * 3) := by rw [ada]; congr 1; omega
  exact ⟨_, rfl, by rw [e2]; exact h1, by rw [e2]; exact h2, h3⟩
theorem cnt_sub {k n : Int} {t : ByteArray} {l : List Va} {ks : List ByteArray} {f : List Va} {x : Va} (h : x ∈ l ∨ x ∈ f) : x.cnt ≤ (Va.mk k n t l ks f).cnt := by
  simp only [Va.cnt]
  rcases h with h | h
  · have := cntL_mem h; omega
  · have := cntL_mem h; omega
/-- What the drawn statements load: a slice of the value's box, and an element. -/
abbrev SF6 (N o : Nat) (v : Value) (q : Addr) (a1 a2 a3 a4 : Nat) (u : Hd) (w : World) : Prop := w.cell? ⟨N, o, none⟩ = some v ∧ w.cell? q = some (.int .i64 u.k) ∧ w.cell? ⟨q.block, a1, none⟩ = some (.int .i64 u.n) ∧ w.cell? ⟨q.block, a2, none⟩ = some (.string u.s) ∧ w.cell? ⟨q.block, a3, none⟩ = some (.slice u.A u.la u.lc) ∧ w.cell? ⟨q.block, a4, none⟩ = some (.slice u.F u.lf u.fc)
theorem SF6.blk {N o : Nat} {v : Value} {q : Addr} {a1 a2 a3 a4 : Nat} {u : Hd} {w w' : World} (h : SF6 N o v q a1 a2 a3 a4 u w) (hN : w'.heap[N]? = w.heap[N]?) (hq : w'.heap[q.block]? = w.heap[q.block]?) : SF6 N o v q a1 a2 a3 a4 u w' :=
  ⟨(World.cell?_of_block (a := ⟨N, o, none⟩) hN).trans h.1, (World.cell?_of_block (a := q) hq).trans h.2.1, (World.cell?_of_block (a := ⟨q.block, a1, none⟩) hq).trans h.2.2.1, (World.cell?_of_block (a := ⟨q.block, a2, none⟩) hq).trans h.2.2.2.1, (World.cell?_of_block (a := ⟨q.block, a3, none⟩) hq).trans h.2.2.2.2.1, (World.cell?_of_block (a := ⟨q.block, a4, none⟩) hq).trans h.2.2.2.2.2⟩
theorem FolR.res {S : Nat → Prop} {a x : Va} {p q : List St} {w w5 : World} {b : Va} {h' : Hd} {ok : Bool} {R : Nat} (hg : goV a q = goV x p) (hR : w.heap.size ≤ R) (hRS : ¬ S R) (hb : Below w.heap.size w w5) (hl : Lies w5 S b h') (ho : (ok = true ∧ goV x p = some b) ∨ (ok = false ∧ goV x p = none ∧ b = zeroVa ∧ h' = zeroHd)) :
    FolR S a q w (.returned (.tuple #[.agg #[.int .i64 h'.k, .int .i64 h'.n, .string h'.s, .slice h'.A h'.la h'.lc, .slice h'.F h'.lf h'.fc], .bool ok])) (((((w5.setCell ⟨R, 0, none⟩ (.int .i64 h'.k)).setCell ⟨R, 1, none⟩ (.int .i64 h'.n)).setCell ⟨R, 2, none⟩ (.string h'.s)).setCell ⟨R, 3, none⟩ (.slice h'.A h'.la h'.lc)).setCell ⟨R, 4, none⟩ (.slice h'.F h'.lf h'.fc)) :=
  ⟨b, h', ok, rfl, res_below hb hR, Lies.keep (fun p hp _ => World.cell?_of_block (res_set (w := w) _ (fun e => hRS (by rw [← e]; exact hp)))) (fun _ h _ => h) _ _ hl, by rw [hg]; exact ho⟩
set_option maxHeartbeats 4000000 in
set_option maxRecDepth 100000 in
theorem follow_any (S : Nat → Prop) (p : List St) : ∀ (a : Va) (h : Hd) (w : World) (A : Option Addr) (m c : Nat), (∀ b, S b → b < w.heap.size) → Lies w S a h → PathAt w A p → (∀ s ∈ p, StR s) → m = p.length → m ≤ c → m ≤ 1000 → a.cnt ≤ 1000 →
    Calls Try.prog 111 #[h.val, .slice A m c] w fun e w' => FolR S a p w e w' := by
  induction p with
  | nil =>
    intro a h w A m c hSb H hA hR hm hc hp hcn
    obtain rfl : m = 0 := hm
    have HH := Lib.hid H
    have HB2 := Lib.hid (two_allocs w (Obj.cells #[.int .i64 h.k, .int .i64 h.n, .string h.s, .slice h.A h.la h.lc, .slice h.F h.lf h.fc] 25) (Obj.cells #[.int .i64 h.k, .int .i64 h.n, .string h.s, .slice h.A h.la h.lc, .slice h.F h.lf h.fc] 25))
    clear H hA hR hc hp hcn
    unfold Hd.val at *
    go_enter Try.func111, Try.ntmps111
    go_wp2_with fail
    refine bodyPost_ret (v := .tuple #[.agg #[.int .i64 h.k, .int .i64 h.n, .string h.s, .slice h.A h.la h.lc, .slice h.F h.lf h.fc], .bool true]) (by simp [results, Try.results111, go_sem]; try rfl) rfl ?_
    exact ⟨a, h, true, rfl, HB2.out, HH.out.below HB2.out (Nat.le_refl _), .inl ⟨rfl, rfl⟩⟩
  | cons s p ih =>
    intro a h w A m c hSb H hA hR hm hc hp hcn
    obtain ⟨ad, rfl, hbl, hat, hok⟩ := hA 0 s rfl
    have e0 : ad.add (0 * 3) = ad := by simp [Addr.add]
    rw [e0] at hat hbl
    have HSR := Lib.hid (hR s (by simp))
    have HTL := Lib.hid hA.tail
    have hm1 : m = p.length + 1 := by simpa using hm
    have IH := Lib.hid (fun (x : Va) (u : Hd) (W : World) (A' : Option Addr) (m' c' : Nat) (h0 : ∀ b, S b → b < W.heap.size) (h1 : Lies W S x u) (h2 : PathAt W A' p) (h3 : m' = p.length) (h5 : m' ≤ c') (h4 : x.cnt ≤ 1000) => ih x u W A' m' c' h0 h1 h2 (fun t ht => hR t (by simp [ht])) h3 h5 (by omega) h4)
    have HPL := Lib.hid hm1
    have HSb := Lib.hid hSb
    have hm0 : 1 ≤ m := by omega
    have hm0i : (1 : Int) ≤ (m : Int) := by omega
    have hm0j : (0 : Int) < (m : Int) := by omega
    have hm0k : 0 < m := by omega
    have hm00 : ((m : Int) == 0) = false := by simp; omega
    obtain ⟨k, n, t, l, ks, f⟩ := a
    have HH := Lib.hid H
    have HOP := Lib.hid H.op
    simp only [Lies] at H
    obtain ⟨⟨e1, e2, e3, e4, e5, e6⟩, -, -⟩ := H
    obtain ⟨hk, hnn, hss, HA, la, lc, F, lf, fc⟩ := h
    simp only at e1 e4 e5
    subst e1 e4
    have hlf : lf = f.length := e5
    subst hlf
    have HE6 := Lib.hid e6
    have HCN := Lib.hid hcn
    have hll : l.length ≤ 1000 := by have := len_le_cntL l; simp only [Va.cnt] at hcn; omega
    have hfl : f.length ≤ 1000 := by have := len_le_cntL f; simp only [Va.cnt] at hcn; omega
    have hgo : goV (.mk hk n t l ks f) (s :: p) = match subV (.mk hk n t l ks f) s with | some x => goV x p | none => none := rfl
    have hsv : subV (.mk hk n t l ks f) s = match subI (.mk hk n t l ks f) s with | some i => if s.i = true then l[i]? else f[i]? | none => none := rfl
    have HGO := Lib.hid hgo
    have HSV := Lib.hid hsv
    have HLT := Lib.hid (fun i (hi : subI (.mk hk n t l ks f) s = some i) => subI_lt HE6.out HSR.out hi)
    unfold Hd.val at *
    simp only
    -- the world behind the two blocks
    have hb2 := two_allocs w (Obj.cells #[.int .i64 hk, .int .i64 hnn, .string hss, .slice HA l.length lc, .slice F f.length fc] 25) (Obj.cells #[.int .i64 0, .int .i64 0, .string { data := #[] }, .slice none 0 0, .slice none 0 0] 25)
    have hbx : Bx ((w.alloc (Obj.cells #[.int .i64 hk, .int .i64 hnn, .string hss, .slice HA l.length lc, .slice F f.length fc] 25)).alloc (Obj.cells #[.int .i64 0, .int .i64 0, .string { data := #[] }, .slice none 0 0, .slice none 0 0] 25)) w.heap.size ⟨hk, hnn, hss, HA, l.length, lc, F, f.length, fc⟩ := (Bx.start w ⟨hk, hnn, hss, HA, l.length, lc, F, f.length, fc⟩ 25).alloc _
    have hres : ((w.alloc (Obj.cells #[.int .i64 hk, .int .i64 hnn, .string hss, .slice HA l.length lc, .slice F f.length fc] 25)).alloc (Obj.cells #[.int .i64 0, .int .i64 0, .string { data := #[] }, .slice none 0 0, .slice none 0 0] 25)).rowIs (w.heap.size + 1) 25 5 zeroRes := by
      refine hdAt_row (h := zeroHd) ?_
      have h9 := heap_alloc_new (w.alloc (Obj.cells #[.int .i64 hk, .int .i64 hnn, .string hss, .slice HA l.length lc, .slice F f.length fc] 25)) (Obj.cells #[.int .i64 0, .int .i64 0, .string { data := #[] }, .slice none 0 0, .slice none 0 0] 25)
      rwa [World.size_alloc] at h9
    have hsz : ((w.alloc (Obj.cells #[.int .i64 hk, .int .i64 hnn, .string hss, .slice HA l.length lc, .slice F f.length fc] 25)).alloc (Obj.cells #[.int .i64 0, .int .i64 0, .string { data := #[] }, .slice none 0 0, .slice none 0 0] 25)).heap.size = w.heap.size + 2 := by simp
    clear hA hR e2 e3 e5 e6 hok e0 hgo hsv hcn hm hm1 ih hSb
    go_enter Try.func111, Try.ntmps111
    go_wp2_with fail
    generalize (w.alloc (Obj.cells #[.int .i64 hk, .int .i64 hnn, .string hss, .slice HA l.length lc, .slice F f.length fc] 25)).alloc (Obj.cells #[.int .i64 0, .int .i64 0, .string { data := #[] }, .slice none 0 0, .slice none 0 0] 25) = wd at hb2 hbx hres hsz ⊢
    obtain ⟨q0, q1, q2⟩ := hat.below hb2 hbl
    have hbld : ad.block < wd.heap.size := by omega
    have hNd : w.heap.size < wd.heap.size := by omega
    have Q0 : ∀ x : BlwBy wd, x.now.cell? ad = some (.string s.k) := fun x => x.cellA hbld q0
    have Q1 : ∀ x : BlwBy wd, x.now.cell? ⟨ad.block, ad.off + 1, none⟩ = some (.int .i64 s.a) := fun x => x.cellA (a := ⟨ad.block, ad.off + 1, none⟩) hbld q1
    have Q2 : ∀ x : BlwBy wd, x.now.cell? ⟨ad.block, ad.off + 2, none⟩ = some (.bool s.i) := fun x => x.cellA (a := ⟨ad.block, ad.off + 2, none⟩) hbld q2
    have B0 : ∀ x : BlwBy wd, x.now.cell? ⟨w.heap.size, 0, none⟩ = some (.int .i64 hk) := fun x => x.cell hNd (hbx.2 0 _ rfl)
    have B1 : ∀ x : BlwBy wd, x.now.cell? ⟨w.heap.size, 1, none⟩ = some (.int .i64 hnn) := fun x => x.cell hNd (hbx.2 1 _ rfl)
    have B2 : ∀ x : BlwBy wd, x.now.cell? ⟨w.heap.size, 2, none⟩ = some (.string hss) := fun x => x.cell hNd (hbx.2 2 _ rfl)
    have B3 : ∀ x : BlwBy wd, x.now.cell? ⟨w.heap.size, 3, none⟩ = some (.slice HA l.length lc) := fun x => x.cell hNd (hbx.2 3 _ rfl)
    have B4 : ∀ x : BlwBy wd, x.now.cell? ⟨w.heap.size, 4, none⟩ = some (.slice F f.length fc) := fun x => x.cell hNd (hbx.2 4 _ rfl)
    have HHd := Lib.hid (HH.out.below hb2 (Nat.le_refl _))
    have KM : Hid (∀ x : BlwBy wd, Calls Try.prog 124 #[.agg #[.int .i64 hk, .int .i64 hnn, .string hss, .slice HA l.length lc, .slice F f.length fc], .agg #[.string s.k, .int .i64 s.a, .bool s.i]] x.now fun e w'' => e = .returned (.int .i64 (mI (subI (.mk hk n t l ks f) s))) ∧ ∃ q : BlwBy wd, w'' = q.now) := Lib.hid (fun x => Calls.below_of (member_any (.mk hk n t l ks f) S ⟨hk, hnn, hss, HA, l.length, lc, F, f.length, fc⟩ x.now s (HHd.out.below x.bel (Nat.le_refl _)) HSR.out HCN.out))
    have HB2 := Lib.hid hb2
    have HRES := Lib.hid hres
    have HBX := Lib.hid hbx
    clear hb2 hres hbx
    refine wp_quiet_below (by kernel_rfl) (by kernel_rfl) ?_
    repeat (quiet_step (first | (go_at_call 124; exact KM.out _)))
    refine wpQuiet_nil ?_
    intro w9 hw'
    have hb9 : Below wd.heap.size wd w9 := by obtain ⟨⟨wx, hbx⟩, hw''⟩ := hw'; rw [hw'']; exact hbx
    clear hw'
    have HB9 := Lib.hid (HB2.out.trans (hb9.mono (by omega)))
    have hs9 := hb9.size
    have hres9 := rowIs_below HRES.out hb9 (by omega)
    have HRES9 := Lib.hid hres9
    have HBX9 := Lib.hid (HBX.out.go hb9 (by omega))
    have r0 := (hb9.cell hbld).trans q0
    have r1 := (hb9.cell (p := ⟨ad.block, ad.off + 1, none⟩) hbld).trans q1
    have r2 := (hb9.cell (p := ⟨ad.block, ad.off + 2, none⟩) hbld).trans q2
    have hbl9 : ad.block < w9.heap.size := by omega
    clear Q0 Q1 Q2 B0 B1 B2 B3 B4 KM hres9 HRES HBX q0 q1 q2 hb9
    cases hsi : subI (.mk hk n t l ks f) s with
    | none =>
      have HNO : Hid (goV (.mk hk n t l ks f) (s :: p) = none) := Lib.hid (by rw [HGO.out, HSV.out, hsi])
      have z0 := HRES9.out.cell (show 0 < 5 by decide)
      have z1 := HRES9.out.cell (show 1 < 5 by decide)
      have z2 := HRES9.out.cell (show 2 < 5 by decide)
      have z3 := HRES9.out.cell (show 3 < 5 by decide)
      have z4 := HRES9.out.cell (show 4 < 5 by decide)
      have g0 := HRES9.out.frozen 0
      have g1 := HRES9.out.frozen 1
      have g2 := HRES9.out.frozen 2
      have g3 := HRES9.out.frozen 3
      have g4 := HRES9.out.frozen 4
      simp only [hdAt, Hd.cells, List.getD_cons_succ, List.getD_cons_zero] at z0 z1 z2 z3 z4
      simp only [mI]
      clear hsi
      go_wp2_with fail
      refine bodyPost_ret (v := .tuple #[.agg #[.int .i64 0, .int .i64 0, .string ⟨#[]⟩, .slice none 0 0, .slice none 0 0], .bool false]) (by simp [results, Try.results111, go_sem, z0, z1, z2, z3, z4]; try rfl) rfl ?_
      exact FolR.no HNO.out (res_below HB9.out (Nat.le_succ _))
    | some i =>
      cases hst : s.i
      · obtain ⟨hil, h5⟩ := (HLT.out i hsi).2 hst
        obtain ⟨x, hx⟩ : ∃ x, f[i]? = some x := ⟨f[i], List.getElem?_eq_getElem hil⟩
        obtain ⟨ad2, u, key, hA2, _, hab, _, _, hLu, hat2⟩ := HOP.out.K i x hx
        simp only at hA2
        subst hA2
        obtain ⟨kk, k0, k1, k2, k3, k4⟩ := hat2.below HB9.out hab
        have b3 := HBX9.out.2 4 _ rfl
        have HG : Hid (goV (.mk hk n t l ks f) (s :: p) = goV x p) := Lib.hid (by rw [HGO.out, HSV.out, hsi]; simp only; rw [if_neg (by rw [hst]; decide), hx])
        have HXC := Lib.hid (Nat.le_trans (cnt_sub (k := hk) (n := n) (t := t) (l := l) (ks := ks) (f := f) (.inr (List.mem_of_getElem? hx))) HCN.out)
        have hab9 : ad2.block < w9.heap.size := by rw [adb] at hab; have := HB9.out.size; omega
        have HLu := Lib.hid hLu
        rw [hst] at r2
        clear hat2 hx hLu hsi hst
        simp only [mI]
        have hci : (0 : Int) ≤ (i : Int) := by omega
        have hcj : (i : Int) < (f.length : Int) := by omega
        by_cases hc1 : c = 1
        · subst hc1
          obtain rfl : m = 1 := by omega
          have HS0 : Hid (SF6 w.heap.size 4 (.slice (some ad2) f.length fc) ⟨(ad2.add (i * 6)).block, (ad2.add (i * 6)).off + 1, none⟩ ((ad2.add (i * 6)).off + 2) ((ad2.add (i * 6)).off + 3) ((ad2.add (i * 6)).off + 4) ((ad2.add (i * 6)).off + 5) u w9.drew) := Lib.hid ⟨b3, k0, k1, k2, k3, k4⟩
          have hqb : (ad2.add (i * 6)).block < w9.heap.size := by rw [adb]; exact hab9
          have HBD : Hid (Below w.heap.size w w9.drew) := Lib.hid (HB9.out.trans ((Below.refl _ _).drew))
          have HS1 := Lib.hid (show ∀ w5, Below w9.drew.heap.size w9.drew w5 → SF6 w.heap.size 4 (.slice (some ad2) f.length fc) ⟨(ad2.add (i * 6)).block, (ad2.add (i * 6)).off + 1, none⟩ ((ad2.add (i * 6)).off + 2) ((ad2.add (i * 6)).off + 3) ((ad2.add (i * 6)).off + 4) ((ad2.add (i * 6)).off + 5) u w5 from fun w5 hb => SF6.blk HS0.out (hb.block w.heap.size (show w.heap.size < w9.heap.size by omega)) (hb.block _ hqb))
          have hRq : (ad2.add (i * 6)).block ≠ w.heap.size + 1 := by rw [adb] at hab ⊢; omega
          have HS2 := Lib.hid (show ∀ w5 v0 v1 v2 v3 v4, Below w9.drew.heap.size w9.drew w5 → SF6 w.heap.size 4 (.slice (some ad2) f.length fc) ⟨(ad2.add (i * 6)).block, (ad2.add (i * 6)).off + 1, none⟩ ((ad2.add (i * 6)).off + 2) ((ad2.add (i * 6)).off + 3) ((ad2.add (i * 6)).off + 4) ((ad2.add (i * 6)).off + 5) u (((((w5.setCell ⟨w.heap.size + 1, 0, none⟩ v0).setCell ⟨w.heap.size + 1, 1, none⟩ v1).setCell ⟨w.heap.size + 1, 2, none⟩ v2).setCell ⟨w.heap.size + 1, 3, none⟩ v3).setCell ⟨w.heap.size + 1, 4, none⟩ v4) from fun w5 v0 v1 v2 v3 v4 hb => SF6.blk (HS1.out w5 hb) (by rw [Below.heap_setCell _ _ _ _ (by show w.heap.size ≠ w.heap.size + 1; omega), Below.heap_setCell _ _ _ _ (by show w.heap.size ≠ w.heap.size + 1; omega), Below.heap_setCell _ _ _ _ (by show w.heap.size ≠ w.heap.size + 1; omega), Below.heap_setCell _ _ _ _ (by show w.heap.size ≠ w.heap.size + 1; omega), Below.heap_setCell _ _ _ _ (by show w.heap.size ≠ w.heap.size + 1; omega)]) (by rw [Below.heap_setCell _ _ _ _ hRq, Below.heap_setCell _ _ _ _ hRq, Below.heap_setCell _ _ _ _ hRq, Below.heap_setCell _ _ _ _ hRq, Below.heap_setCell _ _ _ _ hRq]))
          have HCL := Lib.hid (IH.out x u w9.drew (some ad) 0 0 (fun b hb => by have := HSb.out b hb; show b < w9.heap.size; omega) (HLu.out.below HBD.out (Nat.le_refl _)) (by have : p = [] := List.length_eq_zero_iff.1 (by have := HPL.out; omega); rw [this]; exact PathAt.nil _ _) (by have := HPL.out; omega) (Nat.le_refl _) HXC.out)
          have HRR := Lib.hid (show ∀ w5, Below w9.drew.heap.size w9.drew w5 → w5.rowIs (w.heap.size + 1) 25 5 zeroRes from fun w5 hb => rowIs_below HRES9.out.drew hb (show w.heap.size + 1 < w9.heap.size by omega))
          go_wp2_with fail
          go_region_held3 (fun w' => w'.cell? ⟨w.heap.size, 4, none⟩ = some (.slice (some ad2) f.length fc) ∧ w'.cell? ⟨(ad2.add (i * 6)).block, (ad2.add (i * 6)).off + 1, none⟩ = some (.int .i64 u.k) ∧ w'.cell? ⟨(ad2.add (i * 6)).block, (ad2.add (i * 6)).off + 2, none⟩ = some (.int .i64 u.n) ∧ w'.cell? ⟨(ad2.add (i * 6)).block, (ad2.add (i * 6)).off + 3, none⟩ = some (.string u.s) ∧ w'.cell? ⟨(ad2.add (i * 6)).block, (ad2.add (i * 6)).off + 4, none⟩ = some (.slice u.A u.la u.lc) ∧ w'.cell? ⟨(ad2.add (i * 6)).block, (ad2.add (i * 6)).off + 5, none⟩ = some (.slice u.F u.lf u.fc))
            (first
              | (with_reducible exact HS2.out _ _ _ _ _ _ hb5)
              | (have h7 := HS1.out _ hb5; with_reducible exact h7)
              | (have h7 := HS0.out; with_reducible exact h7)
              | fail)
            (first
              | (go_at_call 111; refine HCL.out.mono ?_; rintro e w5 ⟨b, h', ok, rfl, hb5, hl5, ho5⟩; have z0 := (HRR.out _ hb5).cell (show 0 < 5 by decide); have z1 := (HRR.out _ hb5).cell (show 1 < 5 by decide); have z2 := (HRR.out _ hb5).cell (show 2 < 5 by decide); have z3 := (HRR.out _ hb5).cell (show 3 < 5 by decide); have z4 := (HRR.out _ hb5).cell (show 4 < 5 by decide); have g0 := (HRR.out _ hb5).frozen 0; have g1 := (HRR.out _ hb5).frozen 1; have g2 := (HRR.out _ hb5).frozen 2; have g3 := (HRR.out _ hb5).frozen 3; have g4 := (HRR.out _ hb5).frozen 4; have HL5 := Lib.hid hl5; have HO5 := Lib.hid ho5; have HB5 := Lib.hid hb5; clear hl5 ho5; simp only [hdAt, Hd.cells, List.getD_cons_succ, List.getD_cons_zero] at z0 z1 z2 z3 z4)
              | fail)
          all_goals go_wp2_with fail
          all_goals refine bodyPost_ret (v := .tuple #[.agg #[.int .i64 h'.k, .int .i64 h'.n, .string h'.s, .slice h'.A h'.la h'.lc, .slice h'.F h'.lf h'.fc], .bool ok]) (by simp [results, Try.results111, go_sem, z0, z1, z2, z3, z4]; try rfl) rfl ?_
          all_goals exact FolR.res HG.out (Nat.le_succ _) (fun h => by have := HSb.out _ h; omega) (HBD.out.trans (HB5.out.mono HBD.out.size)) HL5.out HO5.out
        · have HS0 : Hid (SF6 w.heap.size 4 (.slice (some ad2) f.length fc) ⟨(ad2.add (i * 6)).block, (ad2.add (i * 6)).off + 1, none⟩ ((ad2.add (i * 6)).off + 2) ((ad2.add (i * 6)).off + 3) ((ad2.add (i * 6)).off + 4) ((ad2.add (i * 6)).off + 5) u w9.drew) := Lib.hid ⟨b3, k0, k1, k2, k3, k4⟩
          have hqb : (ad2.add (i * 6)).block < w9.heap.size := by rw [adb]; exact hab9
          have HBD : Hid (Below w.heap.size w w9.drew) := Lib.hid (HB9.out.trans ((Below.refl _ _).drew))
          have HS1 := Lib.hid (show ∀ w5, Below w9.drew.heap.size w9.drew w5 → SF6 w.heap.size 4 (.slice (some ad2) f.length fc) ⟨(ad2.add (i * 6)).block, (ad2.add (i * 6)).off + 1, none⟩ ((ad2.add (i * 6)).off + 2) ((ad2.add (i * 6)).off + 3) ((ad2.add (i * 6)).off + 4) ((ad2.add (i * 6)).off + 5) u w5 from fun w5 hb => SF6.blk HS0.out (hb.block w.heap.size (show w.heap.size < w9.heap.size by omega)) (hb.block _ hqb))
          have hRq : (ad2.add (i * 6)).block ≠ w.heap.size + 1 := by rw [adb] at hab ⊢; omega
          have HS2 := Lib.hid (show ∀ w5 v0 v1 v2 v3 v4, Below w9.drew.heap.size w9.drew w5 → SF6 w.heap.size 4 (.slice (some ad2) f.length fc) ⟨(ad2.add (i * 6)).block, (ad2.add (i * 6)).off + 1, none⟩ ((ad2.add (i * 6)).off + 2) ((ad2.add (i * 6)).off + 3) ((ad2.add (i * 6)).off + 4) ((ad2.add (i * 6)).off + 5) u (((((w5.setCell ⟨w.heap.size + 1, 0, none⟩ v0).setCell ⟨w.heap.size + 1, 1, none⟩ v1).setCell ⟨w.heap.size + 1, 2, none⟩ v2).setCell ⟨w.heap.size + 1, 3, none⟩ v3).setCell ⟨w.heap.size + 1, 4, none⟩ v4) from fun w5 v0 v1 v2 v3 v4 hb => SF6.blk (HS1.out w5 hb) (by rw [Below.heap_setCell _ _ _ _ (by show w.heap.size ≠ w.heap.size + 1; omega), Below.heap_setCell _ _ _ _ (by show w.heap.size ≠ w.heap.size + 1; omega), Below.heap_setCell _ _ _ _ (by show w.heap.size ≠ w.heap.size + 1; omega), Below.heap_setCell _ _ _ _ (by show w.heap.size ≠ w.heap.size + 1; omega), Below.heap_setCell _ _ _ _ (by show w.heap.size ≠ w.heap.size + 1; omega)]) (by rw [Below.heap_setCell _ _ _ _ hRq, Below.heap_setCell _ _ _ _ hRq, Below.heap_setCell _ _ _ _ hRq, Below.heap_setCell _ _ _ _ hRq, Below.heap_setCell _ _ _ _ hRq]))
          have HCL := Lib.hid (IH.out x u w9.drew (some ⟨ad.block, ad.off + 3, none⟩) (m - 1) (c - 1) (fun b hb => by have := HSb.out b hb; show b < w9.heap.size; omega) (HLu.out.below HBD.out (Nat.le_refl _)) (by have h := HTL.out.below HBD.out (Nat.le_refl _); rwa [add_pos _ (by decide)] at h) (by have := HPL.out; omega) (by omega) HXC.out)
          have HRR := Lib.hid (show ∀ w5, Below w9.drew.heap.size w9.drew w5 → w5.rowIs (w.heap.size + 1) 25 5 zeroRes from fun w5 hb => rowIs_below HRES9.out.drew hb (show w.heap.size + 1 < w9.heap.size by omega))
          go_wp2_with fail
          go_region_held3 (fun w' => w'.cell? ⟨w.heap.size, 4, none⟩ = some (.slice (some ad2) f.length fc) ∧ w'.cell? ⟨(ad2.add (i * 6)).block, (ad2.add (i * 6)).off + 1, none⟩ = some (.int .i64 u.k) ∧ w'.cell? ⟨(ad2.add (i * 6)).block, (ad2.add (i * 6)).off + 2, none⟩ = some (.int .i64 u.n) ∧ w'.cell? ⟨(ad2.add (i * 6)).block, (ad2.add (i * 6)).off + 3, none⟩ = some (.string u.s) ∧ w'.cell? ⟨(ad2.add (i * 6)).block, (ad2.add (i * 6)).off + 4, none⟩ = some (.slice u.A u.la u.lc) ∧ w'.cell? ⟨(ad2.add (i * 6)).block, (ad2.add (i * 6)).off + 5, none⟩ = some (.slice u.F u.lf u.fc))
            (first
              | (with_reducible exact HS2.out _ _ _ _ _ _ hb5)
              | (have h7 := HS1.out _ hb5; with_reducible exact h7)
              | (have h7 := HS0.out; with_reducible exact h7)
              | fail)
            (first
              | (go_at_call 111; refine HCL.out.mono ?_; rintro e w5 ⟨b, h', ok, rfl, hb5, hl5, ho5⟩; have z0 := (HRR.out _ hb5).cell (show 0 < 5 by decide); have z1 := (HRR.out _ hb5).cell (show 1 < 5 by decide); have z2 := (HRR.out _ hb5).cell (show 2 < 5 by decide); have z3 := (HRR.out _ hb5).cell (show 3 < 5 by decide); have z4 := (HRR.out _ hb5).cell (show 4 < 5 by decide); have g0 := (HRR.out _ hb5).frozen 0; have g1 := (HRR.out _ hb5).frozen 1; have g2 := (HRR.out _ hb5).frozen 2; have g3 := (HRR.out _ hb5).frozen 3; have g4 := (HRR.out _ hb5).frozen 4; have HL5 := Lib.hid hl5; have HO5 := Lib.hid ho5; have HB5 := Lib.hid hb5; clear hl5 ho5; simp only [hdAt, Hd.cells, List.getD_cons_succ, List.getD_cons_zero] at z0 z1 z2 z3 z4)
              | fail)
          all_goals go_wp2_with fail
          all_goals refine bodyPost_ret (v := .tuple #[.agg #[.int .i64 h'.k, .int .i64 h'.n, .string h'.s, .slice h'.A h'.la h'.lc, .slice h'.F h'.lf h'.fc], .bool ok]) (by simp [results, Try.results111, go_sem, z0, z1, z2, z3, z4]; try rfl) rfl ?_
          all_goals exact FolR.res HG.out (Nat.le_succ _) (fun h => by have := HSb.out _ h; omega) (HBD.out.trans (HB5.out.mono HBD.out.size)) HL5.out HO5.out
      · obtain ⟨hil, h4⟩ := (HLT.out i hsi).1 hst
        obtain ⟨x, hx⟩ : ∃ x, l[i]? = some x := ⟨l[i], List.getElem?_eq_getElem hil⟩
        obtain ⟨ad2, u, hA2, _, hab, hLu, hat2⟩ := HOP.out.L i x hx
        simp only at hA2
        subst hA2
        obtain ⟨k0, k1, k2, k3, k4⟩ := hat2.below HB9.out hab
        have b3 := HBX9.out.2 3 _ rfl
        have HG : Hid (goV (.mk hk n t l ks f) (s :: p) = goV x p) := Lib.hid (by rw [HGO.out, HSV.out, hsi]; simp only; rw [if_pos hst, hx])
        have HXC := Lib.hid (Nat.le_trans (cnt_sub (k := hk) (n := n) (t := t) (l := l) (ks := ks) (f := f) (.inl (List.mem_of_getElem? hx))) HCN.out)
        have hab9 : ad2.block < w9.heap.size := by rw [adb] at hab; have := HB9.out.size; omega
        have HLu := Lib.hid hLu
        rw [hst] at r2
        clear hat2 hx hLu hsi hst
        simp only [mI]
        have hci : (0 : Int) ≤ (i : Int) := by omega
        have hcj : (i : Int) < (l.length : Int) := by omega
        by_cases hc1 : c = 1
        · subst hc1
          obtain rfl : m = 1 := by omega
          have HS0 : Hid (SF6 w.heap.size 3 (.slice (some ad2) l.length lc) (ad2.add (i * 5)) ((ad2.add (i * 5)).off + 1) ((ad2.add (i * 5)).off + 2) ((ad2.add (i * 5)).off + 3) ((ad2.add (i * 5)).off + 4) u w9.drew) := Lib.hid ⟨b3, k0, k1, k2, k3, k4⟩
          have hqb : (ad2.add (i * 5)).block < w9.heap.size := by rw [adb]; exact hab9
          have HBD : Hid (Below w.heap.size w w9.drew) := Lib.hid (HB9.out.trans ((Below.refl _ _).drew))
          have HS1 := Lib.hid (show ∀ w5, Below w9.drew.heap.size w9.drew w5 → SF6 w.heap.size 3 (.slice (some ad2) l.length lc) (ad2.add (i * 5)) ((ad2.add (i * 5)).off + 1) ((ad2.add (i * 5)).off + 2) ((ad2.add (i * 5)).off + 3) ((ad2.add (i * 5)).off + 4) u w5 from fun w5 hb => SF6.blk HS0.out (hb.block w.heap.size (show w.heap.size < w9.heap.size by omega)) (hb.block _ hqb))
          have hRq : (ad2.add (i * 5)).block ≠ w.heap.size + 1 := by rw [adb] at hab ⊢; omega
          have HS2 := Lib.hid (show ∀ w5 v0 v1 v2 v3 v4, Below w9.drew.heap.size w9.drew w5 → SF6 w.heap.size 3 (.slice (some ad2) l.length lc) (ad2.add (i * 5)) ((ad2.add (i * 5)).off + 1) ((ad2.add (i * 5)).off + 2) ((ad2.add (i * 5)).off + 3) ((ad2.add (i * 5)).off + 4) u (((((w5.setCell ⟨w.heap.size + 1, 0, none⟩ v0).setCell ⟨w.heap.size + 1, 1, none⟩ v1).setCell ⟨w.heap.size + 1, 2, none⟩ v2).setCell ⟨w.heap.size + 1, 3, none⟩ v3).setCell ⟨w.heap.size + 1, 4, none⟩ v4) from fun w5 v0 v1 v2 v3 v4 hb => SF6.blk (HS1.out w5 hb) (by rw [Below.heap_setCell _ _ _ _ (by show w.heap.size ≠ w.heap.size + 1; omega), Below.heap_setCell _ _ _ _ (by show w.heap.size ≠ w.heap.size + 1; omega), Below.heap_setCell _ _ _ _ (by show w.heap.size ≠ w.heap.size + 1; omega), Below.heap_setCell _ _ _ _ (by show w.heap.size ≠ w.heap.size + 1; omega), Below.heap_setCell _ _ _ _ (by show w.heap.size ≠ w.heap.size + 1; omega)]) (by rw [Below.heap_setCell _ _ _ _ hRq, Below.heap_setCell _ _ _ _ hRq, Below.heap_setCell _ _ _ _ hRq, Below.heap_setCell _ _ _ _ hRq, Below.heap_setCell _ _ _ _ hRq]))
          have HCL := Lib.hid (IH.out x u w9.drew (some ad) 0 0 (fun b hb => by have := HSb.out b hb; show b < w9.heap.size; omega) (HLu.out.below HBD.out (Nat.le_refl _)) (by have : p = [] := List.length_eq_zero_iff.1 (by have := HPL.out; omega); rw [this]; exact PathAt.nil _ _) (by have := HPL.out; omega) (Nat.le_refl _) HXC.out)
          have HRR := Lib.hid (show ∀ w5, Below w9.drew.heap.size w9.drew w5 → w5.rowIs (w.heap.size + 1) 25 5 zeroRes from fun w5 hb => rowIs_below HRES9.out.drew hb (show w.heap.size + 1 < w9.heap.size by omega))
          go_wp2_with fail
          go_region_held3 (fun w' => w'.cell? ⟨w.heap.size, 3, none⟩ = some (.slice (some ad2) l.length lc) ∧ w'.cell? (ad2.add (i * 5)) = some (.int .i64 u.k) ∧ w'.cell? ⟨(ad2.add (i * 5)).block, (ad2.add (i * 5)).off + 1, none⟩ = some (.int .i64 u.n) ∧ w'.cell? ⟨(ad2.add (i * 5)).block, (ad2.add (i * 5)).off + 2, none⟩ = some (.string u.s) ∧ w'.cell? ⟨(ad2.add (i * 5)).block, (ad2.add (i * 5)).off + 3, none⟩ = some (.slice u.A u.la u.lc) ∧ w'.cell? ⟨(ad2.add (i * 5)).block, (ad2.add (i * 5)).off + 4, none⟩ = some (.slice u.F u.lf u.fc))
            (first
              | (with_reducible exact HS2.out _ _ _ _ _ _ hb5)
              | (have h7 := HS1.out _ hb5; with_reducible exact h7)
              | (have h7 := HS0.out; with_reducible exact h7)
              | fail)
            (first
              | (go_at_call 111; refine HCL.out.mono ?_; rintro e w5 ⟨b, h', ok, rfl, hb5, hl5, ho5⟩; have z0 := (HRR.out _ hb5).cell (show 0 < 5 by decide); have z1 := (HRR.out _ hb5).cell (show 1 < 5 by decide); have z2 := (HRR.out _ hb5).cell (show 2 < 5 by decide); have z3 := (HRR.out _ hb5).cell (show 3 < 5 by decide); have z4 := (HRR.out _ hb5).cell (show 4 < 5 by decide); have g0 := (HRR.out _ hb5).frozen 0; have g1 := (HRR.out _ hb5).frozen 1; have g2 := (HRR.out _ hb5).frozen 2; have g3 := (HRR.out _ hb5).frozen 3; have g4 := (HRR.out _ hb5).frozen 4; have HL5 := Lib.hid hl5; have HO5 := Lib.hid ho5; have HB5 := Lib.hid hb5; clear hl5 ho5; simp only [hdAt, Hd.cells, List.getD_cons_succ, List.getD_cons_zero] at z0 z1 z2 z3 z4)
              | fail)
          all_goals go_wp2_with fail
          all_goals refine bodyPost_ret (v := .tuple #[.agg #[.int .i64 h'.k, .int .i64 h'.n, .string h'.s, .slice h'.A h'.la h'.lc, .slice h'.F h'.lf h'.fc], .bool ok]) (by simp [results, Try.results111, go_sem, z0, z1, z2, z3, z4]; try rfl) rfl ?_
          all_goals exact FolR.res HG.out (Nat.le_succ _) (fun h => by have := HSb.out _ h; omega) (HBD.out.trans (HB5.out.mono HBD.out.size)) HL5.out HO5.out
        · have HS0 : Hid (SF6 w.heap.size 3 (.slice (some ad2) l.length lc) (ad2.add (i * 5)) ((ad2.add (i * 5)).off + 1) ((ad2.add (i * 5)).off + 2) ((ad2.add (i * 5)).off + 3) ((ad2.add (i * 5)).off + 4) u w9.drew) := Lib.hid ⟨b3, k0, k1, k2, k3, k4⟩
          have hqb : (ad2.add (i * 5)).block < w9.heap.size := by rw [adb]; exact hab9
          have HBD : Hid (Below w.heap.size w w9.drew) := Lib.hid (HB9.out.trans ((Below.refl _ _).drew))
          have HS1 := Lib.hid (show ∀ w5, Below w9.drew.heap.size w9.drew w5 → SF6 w.heap.size 3 (.slice (some ad2) l.length lc) (ad2.add (i * 5)) ((ad2.add (i * 5)).off + 1) ((ad2.add (i * 5)).off + 2) ((ad2.add (i * 5)).off + 3) ((ad2.add (i * 5)).off + 4) u w5 from fun w5 hb => SF6.blk HS0.out (hb.block w.heap.size (show w.heap.size < w9.heap.size by omega)) (hb.block _ hqb))
          have hRq : (ad2.add (i * 5)).block ≠ w.heap.size + 1 := by rw [adb] at hab ⊢; omega
          have HS2 := Lib.hid (show ∀ w5 v0 v1 v2 v3 v4, Below w9.drew.heap.size w9.drew w5 → SF6 w.heap.size 3 (.slice (some ad2) l.length lc) (ad2.add (i * 5)) ((ad2.add (i * 5)).off + 1) ((ad2.add (i * 5)).off + 2) ((ad2.add (i * 5)).off + 3) ((ad2.add (i * 5)).off + 4) u (((((w5.setCell ⟨w.heap.size + 1, 0, none⟩ v0).setCell ⟨w.heap.size + 1, 1, none⟩ v1).setCell ⟨w.heap.size + 1, 2, none⟩ v2).setCell ⟨w.heap.size + 1, 3, none⟩ v3).setCell ⟨w.heap.size + 1, 4, none⟩ v4) from fun w5 v0 v1 v2 v3 v4 hb => SF6.blk (HS1.out w5 hb) (by rw [Below.heap_setCell _ _ _ _ (by show w.heap.size ≠ w.heap.size + 1; omega), Below.heap_setCell _ _ _ _ (by show w.heap.size ≠ w.heap.size + 1; omega), Below.heap_setCell _ _ _ _ (by show w.heap.size ≠ w.heap.size + 1; omega), Below.heap_setCell _ _ _ _ (by show w.heap.size ≠ w.heap.size + 1; omega), Below.heap_setCell _ _ _ _ (by show w.heap.size ≠ w.heap.size + 1; omega)]) (by rw [Below.heap_setCell _ _ _ _ hRq, Below.heap_setCell _ _ _ _ hRq, Below.heap_setCell _ _ _ _ hRq, Below.heap_setCell _ _ _ _ hRq, Below.heap_setCell _ _ _ _ hRq]))
          have HCL := Lib.hid (IH.out x u w9.drew (some ⟨ad.block, ad.off + 3, none⟩) (m - 1) (c - 1) (fun b hb => by have := HSb.out b hb; show b < w9.heap.size; omega) (HLu.out.below HBD.out (Nat.le_refl _)) (by have h := HTL.out.below HBD.out (Nat.le_refl _); rwa [add_pos _ (by decide)] at h) (by have := HPL.out; omega) (by omega) HXC.out)
          have HRR := Lib.hid (show ∀ w5, Below w9.drew.heap.size w9.drew w5 → w5.rowIs (w.heap.size + 1) 25 5 zeroRes from fun w5 hb => rowIs_below HRES9.out.drew hb (show w.heap.size + 1 < w9.heap.size by omega))
          go_wp2_with fail
          go_region_held3 (fun w' => w'.cell? ⟨w.heap.size, 3, none⟩ = some (.slice (some ad2) l.length lc) ∧ w'.cell? (ad2.add (i * 5)) = some (.int .i64 u.k) ∧ w'.cell? ⟨(ad2.add (i * 5)).block, (ad2.add (i * 5)).off + 1, none⟩ = some (.int .i64 u.n) ∧ w'.cell? ⟨(ad2.add (i * 5)).block, (ad2.add (i * 5)).off + 2, none⟩ = some (.string u.s) ∧ w'.cell? ⟨(ad2.add (i * 5)).block, (ad2.add (i * 5)).off + 3, none⟩ = some (.slice u.A u.la u.lc) ∧ w'.cell? ⟨(ad2.add (i * 5)).block, (ad2.add (i * 5)).off + 4, none⟩ = some (.slice u.F u.lf u.fc))
            (first
              | (with_reducible exact HS2.out _ _ _ _ _ _ hb5)
              | (have h7 := HS1.out _ hb5; with_reducible exact h7)
              | (have h7 := HS0.out; with_reducible exact h7)
              | fail)
            (first
              | (go_at_call 111; refine HCL.out.mono ?_; rintro e w5 ⟨b, h', ok, rfl, hb5, hl5, ho5⟩; have z0 := (HRR.out _ hb5).cell (show 0 < 5 by decide); have z1 := (HRR.out _ hb5).cell (show 1 < 5 by decide); have z2 := (HRR.out _ hb5).cell (show 2 < 5 by decide); have z3 := (HRR.out _ hb5).cell (show 3 < 5 by decide); have z4 := (HRR.out _ hb5).cell (show 4 < 5 by decide); have g0 := (HRR.out _ hb5).frozen 0; have g1 := (HRR.out _ hb5).frozen 1; have g2 := (HRR.out _ hb5).frozen 2; have g3 := (HRR.out _ hb5).frozen 3; have g4 := (HRR.out _ hb5).frozen 4; have HL5 := Lib.hid hl5; have HO5 := Lib.hid ho5; have HB5 := Lib.hid hb5; clear hl5 ho5; simp only [hdAt, Hd.cells, List.getD_cons_succ, List.getD_cons_zero] at z0 z1 z2 z3 z4)
              | fail)
          all_goals go_wp2_with fail
          all_goals refine bodyPost_ret (v := .tuple #[.agg #[.int .i64 h'.k, .int .i64 h'.n, .string h'.s, .slice h'.A h'.la h'.lc, .slice h'.F h'.lf h'.fc], .bool ok]) (by simp [results, Try.results111, go_sem, z0, z1, z2, z3, z4]; try rfl) rfl ?_
          all_goals exact FolR.res HG.out (Nat.le_succ _) (fun h => by have := HSb.out _ h; omega) (HBD.out.trans (HB5.out.mono HBD.out.size)) HL5.out HO5.out
end Go.Proofs.Ytmdlcalnncncjaa

/- path.target and path.Find. -/
set_option linter.unusedVariables false
set_option linter.unusedSimpArgs false
namespace Go.Proofs.Ytmdlcalnncncjaa
open Go.RowKit
/-- Values that are to come in. -/
def InsAt (w : World) (B : Option Addr) (ins : List Va) : Prop := ∀ (i : Nat) x, ins[i]? = some x → ∃ ad u, B = some ad ∧ (ad.add (i * 5)).block < w.heap.size ∧ Lies w (fun _ => True) x u ∧ At5 w (ad.add (i * 5)) u ∧ x.Sh ∧ x.cnt ≤ 1000
theorem InsAt.nil (w : World) (B : Option Addr) : InsAt w B [] := fun i x h => by simp at h
theorem InsAt.below {w w' : World} {B : Option Addr} {ins : List Va} {M : Nat} (h : InsAt w B ins) (hb : Below M w w') (hM : w.heap.size ≤ M) : InsAt w' B ins := by
  intro i x hx
  obtain ⟨ad, u, e, h1, h2, h3, h4⟩ := h i x hx
  exact ⟨ad, u, e, by have := hb.size; omega, h2.below hb hM, h3.below hb (by omega), h4⟩
/-- All is right. -/
def AllR (a : Va) (p : List St) (ins : List Va) : Prop := a.R 12 ∧ PathR p ∧ ∀ x ∈ ins, x.R 12
/-- What target answers. -/
def TgtR (S : Nat → Prop) (a : Va) (p : List St) (ins : List Va) (w : World) (e : Ending) (w' : World) : Prop := ∃ (b : Va) (h' : Hd) (er : Int), e = .returned (.tuple #[.agg #[.int .i64 h'.k, .int .i64 h'.n, .string h'.s, .slice h'.A h'.la h'.lc, .slice h'.F h'.lf h'.fc], .int .i64 er]) ∧ Below w.heap.size w w' ∧ Lies w' S b h' ∧
  ((¬ AllR a p ins ∧ er = 1 ∧ b = zeroVa) ∨ (AllR a p ins ∧ er = 8 ∧ b = zeroVa ∧ goV a p = none) ∨ (AllR a p ins ∧ er = 0 ∧ goV a p = some b))
theorem TgtR.no {S : Nat → Prop} {a : Va} {p : List St} {ins : List Va} {w w' : World} (h : ¬ AllR a p ins) (hb : Below w.heap.size w w') : TgtR S a p ins w (.returned (.tuple #[.agg #[.int .i64 0, .int .i64 0, .string ⟨#[]⟩, .slice none 0 0, .slice none 0 0], .int .i64 1])) w' :=
  ⟨zeroVa, zeroHd, 1, rfl, hb, lies_zero _ _, .inl ⟨h, rfl, rfl⟩⟩
theorem InsR_next {ins : List Va} {i : Nat} {x : Va} (h : ∀ y ∈ ins.take i, y.R 12) (hx : ins[i]? = some x) (hr : x.R 12) : ∀ y ∈ ins.take (i + 1), y.R 12 := by
  intro y hy
  rw [take_next hx] at hy
  rcases List.mem_append.1 hy with hy | hy
  · exact h y hy
  · simp at hy; subst hy; exact hr
set_option maxHeartbeats 4000000 in
set_option maxRecDepth 100000 in
theorem target_any (S : Nat → Prop) (a : Va) (h : Hd) (w : World) (A : Option Addr) (m c : Nat) (p : List St) (B : Option Addr) (bn bc : Nat) (ins : List Va) (hSb : ∀ b, S b → b < w.heap.size) (H : Lies w S a h) (hsh : a.Sh) (hcn : a.cnt ≤ 1000) (hA : PathAt w A p) (hm : m = p.length) (hc : m ≤ c) (hp : m ≤ 1000) (hB : InsAt w B ins) (hbn : bn = ins.length) (hbl : bn ≤ 1000) :
    Calls Try.prog 86 #[h.val, .slice A m c, .slice B bn bc] w fun e w' => TgtR S a p ins w e w' := by
  have HH := Lib.hid H
  have HSH := Lib.hid hsh
  have HCN := Lib.hid hcn
  have HA := Lib.hid hA
  have HM := Lib.hid hm
  have HIN := Lib.hid hB
  have HSb := Lib.hid hSb
  have HBN := Lib.hid hbn
  unfold Hd.val at *
  have hb2 := two_allocs w (Obj.cells #[.int .i64 h.k, .int .i64 h.n, .string h.s, .slice h.A h.la h.lc, .slice h.F h.lf h.fc] 25) (Obj.cells #[.int .i64 0, .int .i64 0, .string { data := #[] }, .slice none 0 0, .slice none 0 0] 25)
  have K1 := Lib.hid (right_prog a S h _ (H.below hb2 (Nat.le_refl _)) hsh hcn)
  unfold Hd.val at K1
  clear H hsh hcn hA hB hSb hb2 hm hbn
  go_enter Try.func86, Try.ntmps86
  go_wp2_with fail
  refine K1.out.mono ?_
  rintro e w1 ⟨r, rfl, hr, hb1⟩
  obtain ⟨hb2, hbx, hres, hsz⟩ := two_blocks hb1
  have HB := Lib.hid hb2
  have HR := Lib.hid hr
  have HBX := Lib.hid hbx
  have HRES := Lib.hid hres
  clear hb1 hb2 hr hbx hres K1
  cases r
  · have HNO : Hid (¬ AllR a p ins) := Lib.hid (fun h => absurd (HR.out.2 h.1) (by decide))
    have z0 := HRES.out.cell (show 0 < 5 by decide)
    have z1 := HRES.out.cell (show 1 < 5 by decide)
    have z2 := HRES.out.cell (show 2 < 5 by decide)
    have z3 := HRES.out.cell (show 3 < 5 by decide)
    have z4 := HRES.out.cell (show 4 < 5 by decide)
    have g0 := HRES.out.frozen 0
    have g1 := HRES.out.frozen 1
    have g2 := HRES.out.frozen 2
    have g3 := HRES.out.frozen 3
    have g4 := HRES.out.frozen 4
    simp only [hdAt, Hd.cells, List.getD_cons_succ, List.getD_cons_zero] at z0 z1 z2 z3 z4
    go_wp2_with fail
    refine bodyPost_ret (v := .tuple #[.agg #[.int .i64 0, .int .i64 0, .string ⟨#[]⟩, .slice none 0 0, .slice none 0 0], .int .i64 1]) (by simp [results, Try.results86, go_sem, z0, z1, z2, z3, z4]; try rfl) rfl ?_
    exact TgtR.no HNO.out (res_below HB.out (Nat.le_succ _))
  have HY := Lib.hid (HR.out.1 rfl)
  clear HR
  have KP := Lib.hid (path_right p A m c w1 HM.out (by have := HM.out; unfold maxLen; omega) (HA.out.below HB.out (Nat.le_refl _)))
  go_wp2_with fail
  refine KP.out.mono ?_
  rintro e w2 ⟨r, rfl, hr, hb2⟩
  have HR := Lib.hid hr
  have HB2 := Lib.hid (HB.out.trans (hb2.mono HB.out.size))
  have hsz2 : w.heap.size + 2 ≤ w2.heap.size := by have := hb2.size; omega
  have HBX2 := Lib.hid (HBX.out.go hb2 HBX.out.1)
  have HRES2 := Lib.hid (rowIs_below HRES.out hb2 (by omega))
  clear hb2 hr KP HBX HRES HB
  cases r
  · have HNO : Hid (¬ AllR a p ins) := Lib.hid (fun h => absurd (HR.out.2 h.2.1) (by decide))
    have z0 := HRES2.out.cell (show 0 < 5 by decide)
    have z1 := HRES2.out.cell (show 1 < 5 by decide)
    have z2 := HRES2.out.cell (show 2 < 5 by decide)
    have z3 := HRES2.out.cell (show 3 < 5 by decide)
    have z4 := HRES2.out.cell (show 4 < 5 by decide)
    have g0 := HRES2.out.frozen 0
    have g1 := HRES2.out.frozen 1
    have g2 := HRES2.out.frozen 2
    have g3 := HRES2.out.frozen 3
    have g4 := HRES2.out.frozen 4
    simp only [hdAt, Hd.cells, List.getD_cons_succ, List.getD_cons_zero] at z0 z1 z2 z3 z4
    go_wp2_with fail
    refine bodyPost_ret (v := .tuple #[.agg #[.int .i64 0, .int .i64 0, .string ⟨#[]⟩, .slice none 0 0, .slice none 0 0], .int .i64 1]) (by simp [results, Try.results86, go_sem, z0, z1, z2, z3, z4]; try rfl) rfl ?_
    exact TgtR.no HNO.out (res_below HB2.out (Nat.le_succ _))
  have HYP := Lib.hid (HR.out.1 rfl)
  clear HR
  go_wp2_with fail
  go_loopw [23] (fun iv wr => ∃ i : Nat, iv = .int .i64 i ∧ i ≤ bn ∧ (∀ x ∈ ins.take i, x.R 12) ∧ Below w2.heap.size w2 wr) (fun iv _ => bn - (intOf iv).toNat)
  case atStart => exact ⟨0, rfl, Nat.zero_le _, by simp, Below.refl _ _⟩
  case round =>
    obtain ⟨i, rfl, hi, hall, hbr⟩ := hrel
    have HALL := Lib.hid hall
    have HBR := Lib.hid hbr
    have HBW := Lib.hid (HB2.out.trans (hbr.mono HB2.out.size))
    have hszr := hbr.size
    have HBXr := Lib.hid (HBX2.out.go hbr HBX2.out.1)
    have HRESr := Lib.hid (rowIs_below HRES2.out hbr (by omega))
    clear hall hbr
    by_cases hlt : i < bn
    · obtain ⟨x, hx⟩ : ∃ x, ins[i]? = some x := ⟨ins[i]'(by have := HBN.out; omega), List.getElem?_eq_getElem (by have := HBN.out; omega)⟩
      obtain ⟨ad, u, e, hab, hLu, hat, hxs, hxc⟩ := (HIN.out.below HBW.out (Nat.le_refl _)) i x hx
      subst e
      obtain ⟨k0, k1, k2, k3, k4⟩ := hat
      have hba := one_alloc wr (Obj.cells #[.int .i64 u.k, .int .i64 u.n, .string u.s, .slice u.A u.la u.lc, .slice u.F u.lf u.fc] 25)
      have KX := Lib.hid (right_prog x _ u _ (hLu.below hba (Nat.le_refl _)) hxs hxc)
      unfold Hd.val at KX
      have HX := Lib.hid hx
      clear hLu hxs hxc hx hba
      go_wp2_with fail
      refine KX.out.mono ?_
      rintro e w3 ⟨r, rfl, hr, hb3⟩
      have HR := Lib.hid hr
      have hb3w := (after_alloc hb3).1
      have HB3 := Lib.hid hb3w
      have HRES3 := Lib.hid (rowIs_below HRESr.out hb3w (by omega))
      clear hb3 hb3w hr KX
      cases r
      · have HNO : Hid (¬ AllR a p ins) := Lib.hid (fun h => absurd (HR.out.2 (h.2.2 x (List.mem_of_getElem? HX.out))) (by decide))
        have z0 := HRES3.out.cell (show 0 < 5 by decide)
        have z1 := HRES3.out.cell (show 1 < 5 by decide)
        have z2 := HRES3.out.cell (show 2 < 5 by decide)
        have z3 := HRES3.out.cell (show 3 < 5 by decide)
        have z4 := HRES3.out.cell (show 4 < 5 by decide)
        have g0 := HRES3.out.frozen 0
        have g1 := HRES3.out.frozen 1
        have g2 := HRES3.out.frozen 2
        have g3 := HRES3.out.frozen 3
        have g4 := HRES3.out.frozen 4
        simp only [hdAt, Hd.cells, List.getD_cons_succ, List.getD_cons_zero] at z0 z1 z2 z3 z4
        go_wp2_with fail
        refine bodyPost_ret (v := .tuple #[.agg #[.int .i64 0, .int .i64 0, .string ⟨#[]⟩, .slice none 0 0, .slice none 0 0], .int .i64 1]) (by simp [results, Try.results86, go_sem, z0, z1, z2, z3, z4]; try rfl) rfl ?_
        exact TgtR.no HNO.out (res_below (HBW.out.trans (HB3.out.mono HBW.out.size)) (Nat.le_succ _))
      · have HN := Lib.hid (InsR_next HALL.out HX.out (HR.out.1 rfl))
        go_wp2_with fail
        exact ⟨⟨i + 1, by go_num, by omega, HN.out, HBR.out.trans (HB3.out.mono HBR.out.size)⟩, by simp [intOf]; omega⟩
    · have HYA : Hid (AllR a p ins) := Lib.hid ⟨HY.out, HYP.out, by have h1 := HALL.out; have h2 := HBN.out; rwa [List.take_of_length_le (by omega)] at h1⟩
      have b0 := HBXr.out.2 0 _ rfl
      have b1 := HBXr.out.2 1 _ rfl
      have b2 := HBXr.out.2 2 _ rfl
      have b3 := HBXr.out.2 3 _ rfl
      have b4 := HBXr.out.2 4 _ rfl
      have KF := Lib.hid (follow_any S p a h wr A m c (fun b hb => by have := HSb.out b hb; omega) (HH.out.below HBW.out (Nat.le_refl _)) (HA.out.below HBW.out (Nat.le_refl _)) HYP.out.2 HM.out hc hp HCN.out)
      unfold Hd.val at KF
      go_wp2_with fail
      refine KF.out.mono ?_
      rintro e w3 ⟨b, h', ok, rfl, hb3, hl3, ho3⟩
      have HB3 := Lib.hid (HBW.out.trans (hb3.mono HBW.out.size))
      have hsz3 := hb3.size
      have HRES3 := Lib.hid (rowIs_below HRESr.out hb3 (by omega))
      have HL3 := Lib.hid hl3
      have HO3 := Lib.hid ho3
      clear hb3 hl3 ho3 KF
      go_upto_region 10 with fail
      have hb4 := one_alloc w3 (Obj.cells #[.int .i64 h'.k, .int .i64 h'.n, .string h'.s, .slice h'.A h'.la h'.lc, .slice h'.F h'.lf h'.fc] 25)
      have hcx := Bx.start w3 h' 25
      generalize w3.alloc (Obj.cells #[.int .i64 h'.k, .int .i64 h'.n, .string h'.s, .slice h'.A h'.la h'.lc, .slice h'.F h'.lf h'.fc] 25) = w4 at hb4 hcx ⊢
      have HB4 := Lib.hid (HB3.out.trans (hb4.mono HB3.out.size))
      have HRES4 := Lib.hid (rowIs_below HRES3.out hb4 (by omega))
      have HL4 := Lib.hid (HL3.out.below hb4 (Nat.le_refl _))
      have x0 := hcx.2 0 _ rfl
      have x1 := hcx.2 1 _ rfl
      have x2 := hcx.2 2 _ rfl
      have x3 := hcx.2 3 _ rfl
      have x4 := hcx.2 4 _ rfl
      have hxl := hcx.1
      have hs4 := hb4.size
      clear hb4 hcx HB3 HRES3 HL3
      have z0 := HRES4.out.cell (show 0 < 5 by decide)
      have z1 := HRES4.out.cell (show 1 < 5 by decide)
      have z2 := HRES4.out.cell (show 2 < 5 by decide)
      have z3 := HRES4.out.cell (show 3 < 5 by decide)
      have z4 := HRES4.out.cell (show 4 < 5 by decide)
      have g0 := HRES4.out.frozen 0
      have g1 := HRES4.out.frozen 1
      have g2 := HRES4.out.frozen 2
      have g3 := HRES4.out.frozen 3
      have g4 := HRES4.out.frozen 4
      simp only [hdAt, Hd.cells, List.getD_cons_succ, List.getD_cons_zero] at z0 z1 z2 z3 z4
      cases ok
      · have HGN : Hid (goV a p = none) := Lib.hid (by rcases HO3.out with ⟨h1, _⟩ | ⟨_, h2, _⟩; cases h1; exact h2)
        go_wp2_with fail
        refine bodyPost_ret (v := .tuple #[.agg #[.int .i64 0, .int .i64 0, .string ⟨#[]⟩, .slice none 0 0, .slice none 0 0], .int .i64 8]) (by simp [results, Try.results86, go_sem, z0, z1, z2, z3, z4]; try rfl) rfl ?_
        exact ⟨zeroVa, zeroHd, 8, rfl, res_below HB4.out (Nat.le_succ _), lies_zero _ _, .inr (.inl ⟨HYA.out, rfl, rfl, HGN.out⟩)⟩
      · have HGS : Hid (goV a p = some b) := Lib.hid (by rcases HO3.out with ⟨_, h2⟩ | ⟨h1, _⟩; exact h2; cases h1)
        go_wp2_with fail
        refine bodyPost_ret (v := .tuple #[.agg #[.int .i64 h'.k, .int .i64 h'.n, .string h'.s, .slice h'.A h'.la h'.lc, .slice h'.F h'.lf h'.fc], .int .i64 0]) (by simp [results, Try.results86, go_sem, z0, z1, z2, z3, z4]; try rfl) rfl ?_
        refine ⟨b, h', 0, rfl, res_below HB4.out (Nat.le_succ _), ?_, .inr (.inr ⟨HYA.out, rfl, HGS.out⟩)⟩
        exact Lies.keep (fun q hq _ => World.cell?_of_block (res_set (w := w) _ (fun e => by have := HSb.out _ hq; omega))) (fun _ h _ => h) _ _ HL4.out
end Go.Proofs.Ytmdlcalnncncjaa

/- path.Find; the reference's next and Find. -/
set_option linter.unusedVariables false
set_option linter.unusedSimpArgs false
namespace Go.Proofs.Ytmdlcalnncncjaa
open Go.RowKit
theorem R_more : ∀ (a : Va) (d e : Nat), a.R d → d ≤ e → a.R e := by
  intro a
  induction a using Va.ind with
  | h k n s l ks f ihl ihf =>
    intro d e h hde
    have up : ∀ (l : List Va), (∀ x ∈ l, ∀ d e : Nat, x.R d → d ≤ e → x.R e) → RL l (d - 1) → RL l (e - 1) := by
      intro l
      induction l with
      | nil => intro _ _; simp [RL]
      | cons x r ih =>
        intro hx hr
        simp only [RL] at hr ⊢
        exact ⟨hx x (by simp) _ _ hr.1 (by omega), ih (fun y hy => hx y (by simp [hy])) hr.2⟩
    simp only [Va.R] at h ⊢
    exact ⟨by omega, h.2.1, h.2.2.1, up l ihl h.2.2.2.1, up f ihf h.2.2.2.2⟩
/-- A step leads to one of them. -/
theorem subV_mem {k n : Int} {t : ByteArray} {l : List Va} {ks : List ByteArray} {f : List Va} {s : St} {x : Va} (h : subV (.mk k n t l ks f) s = some x) : x ∈ l ∨ x ∈ f := by
  simp only [subV] at h
  split at h
  · split at h
    · exact .inl (List.mem_of_getElem? h)
    · exact .inr (List.mem_of_getElem? h)
  · cases h
theorem goV_keeps {P : Va → Prop} (hP : ∀ k n t l ks f, P (.mk k n t l ks f) → ∀ x, x ∈ l ∨ x ∈ f → P x) : ∀ {p : List St} {a b : Va}, P a → goV a p = some b → P b
  | [], a, b, h, hg => by simp only [goV, Option.some.injEq] at hg; subst hg; exact h
  | s :: p, a, b, h, hg => by
    simp only [goV] at hg
    cases hs : subV a s with
    | none => rw [hs] at hg; cases hg
    | some x =>
      rw [hs] at hg
      obtain ⟨k, n, t, l, ks, f⟩ := a
      exact goV_keeps hP (hP _ _ _ _ _ _ h x (subV_mem hs)) hg
theorem goV_sh {p : List St} {a b : Va} (h : a.Sh) (hg : goV a p = some b) : b.Sh := goV_keeps (P := Va.Sh) (fun k n t l ks f h x hx => by
  simp only [Va.Sh] at h
  rcases hx with hx | hx
  · exact ShL_mem h.2.1 hx
  · exact ShL_mem h.2.2.2 hx) h hg
theorem goV_cnt {p : List St} {a b : Va} {m : Nat} (h : a.cnt ≤ m) (hg : goV a p = some b) : b.cnt ≤ m := goV_keeps (P := fun a => a.cnt ≤ m) (fun k n t l ks f h x hx => Nat.le_trans (cnt_sub hx) h) h hg
theorem goV_R {p : List St} {a b : Va} {d : Nat} (h : a.R d) (hg : goV a p = some b) : b.R d := goV_keeps (P := fun a => a.R d) (fun k n t l ks f h x hx => by
  simp only [Va.R] at h
  rcases hx with hx | hx
  · exact R_more x _ _ (RL_mem h.2.2.2.1 hx) (by omega)
  · exact R_more x _ _ (RL_mem h.2.2.2.2 hx) (by omega)) h hg
/-- What Find answers. -/
def FindR (a : Va) (p : List St) (w : World) (e : Ending) (w' : World) : Prop := ∃ (b : Va) (h' : Hd) (ok : Bool), e = .returned (.tuple #[.agg #[.int .i64 h'.k, .int .i64 h'.n, .string h'.s, .slice h'.A h'.la h'.lc, .slice h'.F h'.lf h'.fc], .bool ok]) ∧ Below w.heap.size w w' ∧ Lies w' (fun _ => True) b h' ∧
  ((ok = true ∧ AllR a p [] ∧ goV a p = some b) ∨ (ok = false ∧ b = zeroVa ∧ (AllR a p [] → goV a p = none)))
set_option maxHeartbeats 2000000 in
set_option maxRecDepth 100000 in
theorem find_prog (a : Va) (S : Nat → Prop) (h : Hd) (w : World) (A : Option Addr) (m c : Nat) (p : List St) (H : Lies w S a h) (hsh : a.Sh) (hcn : a.cnt ≤ 1000) (hA : PathAt w A p) (hm : m = p.length) (hc : m ≤ c) (hp : m ≤ 1000) :
    Calls Try.prog 49 #[h.val, .slice A m c] w fun e w' => FindR a p w e w' := by
  have HS := Lib.hid (show Lies w (fun b => b < w.heap.size) a h from Lies.keep (fun _ _ _ => rfl) (fun b _ hb => hb) _ _ H)
  have HSH := Lib.hid hsh
  have HCN := Lib.hid hcn
  unfold Hd.val at *
  have hb2 := two_allocs w (Obj.cells #[.int .i64 h.k, .int .i64 h.n, .string h.s, .slice h.A h.la h.lc, .slice h.F h.lf h.fc] 25) (Obj.cells #[.int .i64 0, .int .i64 0, .string { data := #[] }, .slice none 0 0, .slice none 0 0] 25)
  have K1 := Lib.hid (target_any (fun b => b < w.heap.size) a h _ A m c p none 0 0 [] (fun b hb => by simp; omega) (HS.out.below hb2 (Nat.le_refl _)) hsh hcn (hA.below hb2 (Nat.le_refl _)) hm hc hp (InsAt.nil _ _) rfl (by decide))
  unfold Hd.val at K1
  clear H hsh hcn hA hb2 hm HS
  go_enter Try.func49, Try.ntmps49
  go_wp2_with fail
  refine K1.out.mono ?_
  rintro e w1 ⟨b, h', er, rfl, hb1, hl1, ho1⟩
  obtain ⟨hb2, hbx, hres, hsz⟩ := two_blocks hb1
  have HL1 := Lib.hid hl1
  have HO1 := Lib.hid ho1
  have HB := Lib.hid hb2
  have HRES := Lib.hid hres
  clear hb1 hb2 hbx hres hl1 ho1 K1
  go_upto_region 2 with fail
  have hb4 := one_alloc w1 (Obj.cells #[.int .i64 h'.k, .int .i64 h'.n, .string h'.s, .slice h'.A h'.la h'.lc, .slice h'.F h'.lf h'.fc] 25)
  have hcx := Bx.start w1 h' 25
  generalize w1.alloc (Obj.cells #[.int .i64 h'.k, .int .i64 h'.n, .string h'.s, .slice h'.A h'.la h'.lc, .slice h'.F h'.lf h'.fc] 25) = w4 at hb4 hcx ⊢
  have HB4 := Lib.hid (HB.out.trans (hb4.mono HB.out.size))
  have HRES4 := Lib.hid (rowIs_below HRES.out hb4 (by omega))
  have HL4 := Lib.hid (HL1.out.below hb4 (Nat.le_refl _))
  have x0 := hcx.2 0 _ rfl
  have x1 := hcx.2 1 _ rfl
  have x2 := hcx.2 2 _ rfl
  have x3 := hcx.2 3 _ rfl
  have x4 := hcx.2 4 _ rfl
  have hs4 := hb4.size
  clear hb4 hcx HB HRES HL1
  by_cases he : er = 0
  case neg =>
    have he' := bq_no he
    have HNO : Hid (AllR a p [] → goV a p = none) := Lib.hid (fun hall => by
      rcases HO1.out with ⟨h1, _⟩ | ⟨_, _, _, h2⟩ | ⟨_, h1, _⟩
      · exact absurd hall h1
      · exact h2
      · exact absurd h1 he)
    clear he
    have z0 := HRES4.out.cell (show 0 < 5 by decide)
    have z1 := HRES4.out.cell (show 1 < 5 by decide)
    have z2 := HRES4.out.cell (show 2 < 5 by decide)
    have z3 := HRES4.out.cell (show 3 < 5 by decide)
    have z4 := HRES4.out.cell (show 4 < 5 by decide)
    have g0 := HRES4.out.frozen 0
    have g1 := HRES4.out.frozen 1
    have g2 := HRES4.out.frozen 2
    have g3 := HRES4.out.frozen 3
    have g4 := HRES4.out.frozen 4
    simp only [hdAt, Hd.cells, List.getD_cons_succ, List.getD_cons_zero] at z0 z1 z2 z3 z4
    go_wp2_with fail
    refine bodyPost_ret (v := .tuple #[.agg #[.int .i64 0, .int .i64 0, .string ⟨#[]⟩, .slice none 0 0, .slice none 0 0], .bool false]) (by simp [results, Try.results49, go_sem, z0, z1, z2, z3, z4]; try rfl) rfl ?_
    exact ⟨zeroVa, zeroHd, false, rfl, res_below HB4.out (Nat.le_succ _), lies_zero _ _, .inr ⟨rfl, rfl, HNO.out⟩⟩
  subst he
  have HYES : Hid (AllR a p [] ∧ goV a p = some b) := Lib.hid (by
    rcases HO1.out with ⟨_, h1, _⟩ | ⟨_, h1, _⟩ | ⟨h0, _, h1⟩
    · exact absurd h1 (by decide)
    · exact absurd h1 (by decide)
    · exact ⟨h0, h1⟩)
  have KC := Lib.hid (clone_prog b _ h' w4 HL4.out (goV_sh HSH.out HYES.out.2) (goV_cnt HCN.out HYES.out.2))
  unfold Hd.val at KC
  go_wp2_with fail
  refine KC.out.mono ?_
  rintro e w5 ⟨b5, h5, T5, rfl, hown5, hT5, hb5, hba5, -⟩
  obtain rfl : b5 = b := hba5 (goV_R HYES.out.1.1 HYES.out.2)
  have hs5 := hb5.size
  have HB5 := Lib.hid (HB4.out.trans (hb5.mono HB4.out.size))
  have hres5 := rowIs_below HRES4.out hb5 (by omega)
  have HL5 := Lib.hid (Own.lies _ _ _ hown5)
  have HT5 := Lib.hid hT5
  have z0 := hres5.cell (show 0 < 5 by decide)
  have z1 := hres5.cell (show 1 < 5 by decide)
  have z2 := hres5.cell (show 2 < 5 by decide)
  have z3 := hres5.cell (show 3 < 5 by decide)
  have z4 := hres5.cell (show 4 < 5 by decide)
  have g0 := hres5.frozen 0
  have g1 := hres5.frozen 1
  have g2 := hres5.frozen 2
  have g3 := hres5.frozen 3
  have g4 := hres5.frozen 4
  simp only [hdAt, Hd.cells, List.getD_cons_succ, List.getD_cons_zero] at z0 z1 z2 z3 z4
  clear hres5 hown5 hb5 hba5 hT5 KC x0 x1 x2 x3 x4
  go_wp2_with fail
  refine bodyPost_ret (v := .tuple #[.agg #[.int .i64 h5.k, .int .i64 h5.n, .string h5.s, .slice h5.A h5.la h5.lc, .slice h5.F h5.lf h5.fc], .bool true]) (by simp [results, Try.results49, go_sem, z0, z1, z2, z3, z4]; try rfl) rfl ?_
  refine ⟨b5, h5, true, rfl, res_below HB5.out (Nat.le_succ _), ?_, .inl ⟨rfl, HYES.out.1, HYES.out.2⟩⟩
  exact Lies.keep (fun q hq _ => World.cell?_of_block (res_set (w := w) _ (fun e => by have := (HT5.out _ hq).1; omega))) (fun _ _ _ => trivial) _ _ HL5.out
set_option maxHeartbeats 1000000 in
set_option maxRecDepth 100000 in
theorem next_ref (a : Va) (S : Nat → Prop) (h : Hd) (w : World) (s : St) (H : Lies w S a h) (hs : StR s) (hcn : a.cnt ≤ 1000) :
    Calls Try.prog 87 #[h.val, .agg #[.string s.k, .int .i64 s.a, .bool s.i]] w fun e w' => e = .returned (.int .i64 (mI (subI a s))) ∧ Below w.heap.size w w' := by
  obtain ⟨k, n, t, l, ks, f⟩ := a
  have HOP := Lib.hid H.op
  have HH := Lib.hid H
  simp only [Lies] at H
  obtain ⟨⟨e1, e2, e3, e4, e5, e6⟩, ⟨hkb, _⟩, -⟩ := H
  obtain ⟨hk, hnn, hss, A, la, lc, F, lf, fc⟩ := h
  simp only at e1 e2 e3 e4 e5 e6
  subst e1 e4
  have hlf : lf = ks.length := by omega
  subst hlf
  have hll : l.length ≤ 1000 := by have := len_le_cntL l; simp only [Va.cnt] at hcn; omega
  have hkl : ks.length ≤ 1000 := by have := len_le_cntL f; simp only [Va.cnt] at hcn; omega
  have HE6 := Lib.hid e6
  obtain ⟨sk, sa, si⟩ := s
  have hb2 := two_allocs w (Obj.cells #[.int .i64 hk, .int .i64 hnn, .string hss, .slice A l.length lc, .slice F ks.length fc] 25) (Obj.cells #[.string sk, .int .i64 sa, .bool si] 72)
  have HB2 := Lib.hid hb2
  clear hcn e2 e3 e5 e6
  unfold Hd.val at *
  simp only [subI]
  rcases hs with ⟨e, hk0, h0, hmax⟩ | ⟨e, h0, hr⟩
  · simp only at e hk0 h0 hmax
    subst e
    clear hb2
    rw [if_pos rfl]
    by_cases h4 : hk = 4
    · subst h4
      by_cases hlt : sa < (l.length : Int)
      · rw [if_pos ⟨rfl, hlt⟩]
        have hmi : mI (some sa.toNat) = sa := by show ((sa.toNat : Nat) : Int) = sa; omega
        rw [hmi]
        clear hmi
        go_enter Try.func87, Try.ntmps87
        go_wp2_with fail
        go_ret
        exact ⟨rfl, HB2.out⟩
      · rw [if_neg (fun q => hlt q.2)]
        simp only [mI]
        go_enter Try.func87, Try.ntmps87
        go_wp2_with fail
        go_ret
        exact ⟨rfl, HB2.out⟩
    · rw [if_neg (fun q => h4 q.1)]
      have h4' := bq_no h4
      simp only [mI]
      clear h4
      go_enter Try.func87, Try.ntmps87
      go_wp2_with fail
      go_ret
      exact ⟨rfl, HB2.out⟩
  · simp only at e h0 hr
    subst e h0
    rw [if_neg (by decide)]
    by_cases h5 : hk = 5
    · subst h5
      rw [if_pos rfl]
      have K := Lib.hid (at_ref ks sk ⟨5, hnn, hss, A, l.length, lc, F, ks.length, fc⟩ _ rfl hkl ((HOP.out.keys HE6.out).below hb2 (Nat.le_refl _)))
      unfold Hd.val at K
      simp only at K
      clear hb2
      generalize hmi : mI (kIdx ks sk) = mm
      have HMI := Lib.hid hmi
      clear hmi
      go_enter Try.func87, Try.ntmps87
      go_wp2_with fail
      refine K.out.mono ?_
      rintro e w1 ⟨m, rfl, hp, hb1⟩
      obtain rfl : m = mm := hp.kIdx.trans HMI.out
      have HB1 := Lib.hid (HB2.out.trans (hb1.mono HB2.out.size))
      clear hp hb1 K
      go_wp2_with fail
      go_ret
      exact ⟨rfl, HB1.out⟩
    · rw [if_neg h5]
      have h5' := bq_no h5
      have h5n : (hk != 5) = true := by simp [h5]
      simp only [mI]
      clear h5 hb2
      go_enter Try.func87, Try.ntmps87
      go_wp2_with fail
      go_ret
      exact ⟨rfl, HB2.out⟩
end Go.Proofs.Ytmdlcalnncncjaa

/- The reference's Find. -/
set_option linter.unusedVariables false
set_option linter.unusedSimpArgs false
namespace Go.Proofs.Ytmdlcalnncncjaa
open Go.RowKit
/-- The reference's loop. -/
structure LoopFi (w : World) (a : Va) (p : List St) (i : Nat) (a' : Va) (h' : Hd) (wr : World) : Prop where
  bel : Below w.heap.size w wr
  size : w.heap.size + 2 ≤ wr.heap.size
  box : wr.rowIs w.heap.size 25 5 (hdAt h')
  res : wr.rowIs (w.heap.size + 1) 25 5 zeroRes
  lies : Lies wr (fun b => b < w.heap.size) a' h'
  go : goV a p = goV a' (p.drop i)
  cnt : a'.cnt ≤ 1000
theorem LoopFi.below {w wr w' : World} {a : Va} {p : List St} {i : Nat} {a' : Va} {h' : Hd} (H : LoopFi w a p i a' h' wr) (hb : Below wr.heap.size wr w') : LoopFi w a p i a' h' w' :=
  ⟨H.bel.trans (hb.mono H.bel.size), Nat.le_trans H.size hb.size, rowIs_below H.box hb (by have := H.size; omega), rowIs_below H.res hb (by have := H.size; omega), H.lies.below hb (Nat.le_refl _), H.go, H.cnt⟩
theorem LoopFi.step {w wr : World} {a : Va} {p : List St} {i : Nat} {a' x : Va} {h' u : Hd} {s : St} (H : LoopFi w a p i a' h' wr) (hs : p[i]? = some s) (hx : subV a' s = some x) (hu : Lies wr (fun b => b < w.heap.size) x u) :
    LoopFi w a p (i + 1) x u (((((wr.setCell ⟨w.heap.size, 0, none⟩ (.int .i64 u.k)).setCell ⟨w.heap.size, 1, none⟩ (.int .i64 u.n)).setCell ⟨w.heap.size, 2, none⟩ (.string u.s)).setCell ⟨w.heap.size, 3, none⟩ (.slice u.A u.la u.lc)).setCell ⟨w.heap.size, 4, none⟩ (.slice u.F u.lf u.fc)) := by
  refine ⟨res_below H.bel (Nat.le_refl _), by simp; exact H.size, ?_, H.res.of_block (res_set (w := w) _ (by omega)), ?_, ?_, ?_⟩
  · refine (((((H.box.set 0 _).set 1 _).set 2 _).set 3 _).set 4 _).congr (fun j hj => ?_)
    match j, hj with
    | 0, _ => rfl
    | 1, _ => rfl
    | 2, _ => rfl
    | 3, _ => rfl
    | 4, _ => rfl
  · exact Lies.keep (fun q hq _ => World.cell?_of_block (res_set (w := w) _ (fun e => by rw [e] at hq; exact Nat.lt_irrefl _ hq))) (fun _ h _ => h) _ _ hu
  · have hd : p.drop i = s :: p.drop (i + 1) := by
      have hl := (List.getElem?_eq_some_iff.1 hs).1
      rw [List.drop_eq_getElem_cons hl]
      congr 1
      exact (List.getElem?_eq_some_iff.1 hs).2
    rw [H.go, hd]
    simp only [goV]
    rw [hx]
  · obtain ⟨k, n, t, l, ks, f⟩ := a'
    exact Nat.le_trans (cnt_sub (subV_mem hx)) H.cnt
theorem LoopFi.stop {w wr : World} {a : Va} {p : List St} {i : Nat} {a' : Va} {h' : Hd} {s : St} (H : LoopFi w a p i a' h' wr) (hs : p[i]? = some s) (hx : subV a' s = none) : goV a p = none := by
  have hd : p.drop i = s :: p.drop (i + 1) := by
    have hl := (List.getElem?_eq_some_iff.1 hs).1
    rw [List.drop_eq_getElem_cons hl]
    congr 1
    exact (List.getElem?_eq_some_iff.1 hs).2
  rw [H.go, hd]
  simp only [goV]
  rw [hx]
set_option maxHeartbeats 4000000 in
set_option maxRecDepth 100000 in
theorem find_ref (a : Va) (S : Nat → Prop) (h : Hd) (w : World) (A : Option Addr) (m c : Nat) (p : List St) (H : Lies w S a h) (hcn : a.cnt ≤ 1000) (hA : PathAt w A p) (hm : m = p.length) (hp : m ≤ 1000) (hR : ∀ s ∈ p, StR s) :
    Calls Try.prog 50 #[h.val, .slice A m c] w fun e w' => FolR (fun _ => True) a p w e w' := by
  have HS := Lib.hid (show Lies w (fun b => b < w.heap.size) a h from Lies.keep (fun _ _ _ => rfl) (fun b _ hb => hb) _ _ H)
  have HA := Lib.hid hA
  have HM := Lib.hid hm
  have HSR := Lib.hid hR
  have hb2 := two_allocs w (Obj.cells #[.int .i64 h.k, .int .i64 h.n, .string h.s, .slice h.A h.la h.lc, .slice h.F h.lf h.fc] 25) (Obj.cells #[.int .i64 0, .int .i64 0, .string { data := #[] }, .slice none 0 0, .slice none 0 0] 25)
  have hbox : ((w.alloc (Obj.cells #[.int .i64 h.k, .int .i64 h.n, .string h.s, .slice h.A h.la h.lc, .slice h.F h.lf h.fc] 25)).alloc (Obj.cells #[.int .i64 0, .int .i64 0, .string { data := #[] }, .slice none 0 0, .slice none 0 0] 25)).rowIs w.heap.size 25 5 (hdAt h) := by
    refine hdAt_row ?_
    rw [Below.heap_alloc _ _ _ (by simp)]
    exact heap_alloc_new _ _
  have hres : ((w.alloc (Obj.cells #[.int .i64 h.k, .int .i64 h.n, .string h.s, .slice h.A h.la h.lc, .slice h.F h.lf h.fc] 25)).alloc (Obj.cells #[.int .i64 0, .int .i64 0, .string { data := #[] }, .slice none 0 0, .slice none 0 0] 25)).rowIs (w.heap.size + 1) 25 5 zeroRes := by
    refine hdAt_row (h := zeroHd) ?_
    have h9 := heap_alloc_new (w.alloc (Obj.cells #[.int .i64 h.k, .int .i64 h.n, .string h.s, .slice h.A h.la h.lc, .slice h.F h.lf h.fc] 25)) (Obj.cells #[.int .i64 0, .int .i64 0, .string { data := #[] }, .slice none 0 0, .slice none 0 0] 25)
    rwa [World.size_alloc] at h9
  have hL0 : LoopFi w a p 0 a h ((w.alloc (Obj.cells #[.int .i64 h.k, .int .i64 h.n, .string h.s, .slice h.A h.la h.lc, .slice h.F h.lf h.fc] 25)).alloc (Obj.cells #[.int .i64 0, .int .i64 0, .string { data := #[] }, .slice none 0 0, .slice none 0 0] 25)) := ⟨hb2, by simp, hbox, hres, HS.out.below hb2 (Nat.le_refl _), rfl, hcn⟩
  clear H hcn hA hm hR hb2 hbox hres HS
  unfold Hd.val at *
  go_enter Try.func50, Try.ntmps50
  go_wp2_with fail
  go_loopw [6] (fun iv wr => ∃ (i : Nat) (a' : Va) (h' : Hd), iv = .int .i64 i ∧ i ≤ m ∧ LoopFi w a p i a' h' wr) (fun iv _ => m - (intOf iv).toNat)
  case atStart => exact ⟨0, a, h, rfl, Nat.zero_le _, hL0⟩
  case round =>
    clear hL0
    obtain ⟨i, a', h', rfl, hi, hL⟩ := hrel
    have HL := Lib.hid hL
    have hszr := hL.size
    have b0 := hL.box.cell (show 0 < 5 by decide)
    have b1 := hL.box.cell (show 1 < 5 by decide)
    have b2 := hL.box.cell (show 2 < 5 by decide)
    have b3 := hL.box.cell (show 3 < 5 by decide)
    have b4 := hL.box.cell (show 4 < 5 by decide)
    simp only [hdAt, Hd.cells, List.getD_cons_succ, List.getD_cons_zero] at b0 b1 b2 b3 b4
    clear hL
    by_cases hlt : i < m
    · obtain ⟨s, hs⟩ : ∃ s, p[i]? = some s := ⟨p[i]'(by have := HM.out; omega), List.getElem?_eq_getElem (by have := HM.out; omega)⟩
      obtain ⟨ad, e, hbl, hcell, hok⟩ := (HA.out.below HL.out.bel (Nat.le_refl _)) i s hs
      subst e
      obtain ⟨q0, q1, q2⟩ := hcell
      have HPS := Lib.hid hs
      have HST := Lib.hid (HSR.out s (List.mem_of_getElem? hs))
      have hNr : w.heap.size < wr.heap.size := by omega
      have Q0 : ∀ x : BlwBy wr, x.now.cell? (ad.add (i * 3)) = some (.string s.k) := fun x => x.cellA hbl q0
      have Q1 : ∀ x : BlwBy wr, x.now.cell? ⟨(ad.add (i * 3)).block, (ad.add (i * 3)).off + 1, none⟩ = some (.int .i64 s.a) := fun x => x.cellA (a := ⟨(ad.add (i * 3)).block, (ad.add (i * 3)).off + 1, none⟩) hbl q1
      have Q2 : ∀ x : BlwBy wr, x.now.cell? ⟨(ad.add (i * 3)).block, (ad.add (i * 3)).off + 2, none⟩ = some (.bool s.i) := fun x => x.cellA (a := ⟨(ad.add (i * 3)).block, (ad.add (i * 3)).off + 2, none⟩) hbl q2
      have B0 : ∀ x : BlwBy wr, x.now.cell? ⟨w.heap.size, 0, none⟩ = some (.int .i64 h'.k) := fun x => x.cell hNr b0
      have B1 : ∀ x : BlwBy wr, x.now.cell? ⟨w.heap.size, 1, none⟩ = some (.int .i64 h'.n) := fun x => x.cell hNr b1
      have B2 : ∀ x : BlwBy wr, x.now.cell? ⟨w.heap.size, 2, none⟩ = some (.string h'.s) := fun x => x.cell hNr b2
      have B3 : ∀ x : BlwBy wr, x.now.cell? ⟨w.heap.size, 3, none⟩ = some (.slice h'.A h'.la h'.lc) := fun x => x.cell hNr b3
      have B4 : ∀ x : BlwBy wr, x.now.cell? ⟨w.heap.size, 4, none⟩ = some (.slice h'.F h'.lf h'.fc) := fun x => x.cell hNr b4
      have KM : Hid (∀ x : BlwBy wr, Calls Try.prog 87 #[.agg #[.int .i64 h'.k, .int .i64 h'.n, .string h'.s, .slice h'.A h'.la h'.lc, .slice h'.F h'.lf h'.fc], .agg #[.string s.k, .int .i64 s.a, .bool s.i]] x.now fun e w'' => e = .returned (.int .i64 (mI (subI a' s))) ∧ ∃ q : BlwBy wr, w'' = q.now) := Lib.hid (fun x => Calls.below_of (next_ref a' _ h' x.now s (HL.out.lies.below x.bel (Nat.le_refl _)) HST.out HL.out.cnt))
      clear hs hok
      go_wp2_with fail
      refine wp_quiet_below (by kernel_rfl) (by kernel_rfl) ?_
      repeat (quiet_step (first | (go_at_call 87; exact KM.out _)))
      refine wpQuiet_nil ?_
      intro w9 hw'
      have hb9 : Below wr.heap.size wr w9 := by obtain ⟨⟨wx, hbx⟩, hw''⟩ := hw'; rw [hw'']; exact hbx
      clear hw'
      have HL9 := Lib.hid (HL.out.below hb9)
      have hs9 := hb9.size
      have r2 := (hb9.cell (p := ⟨(ad.add (i * 3)).block, (ad.add (i * 3)).off + 2, none⟩) hbl).trans q2
      clear Q0 Q1 Q2 B0 B1 B2 B3 B4 KM b0 b1 b2 b3 b4 q0 q1 q2 hb9 HL
      cases hsi : subI a' s with
      | none =>
        have HNO : Hid (goV a p = none) := Lib.hid (HL9.out.stop HPS.out (by obtain ⟨k, n, t, l, ks, f⟩ := a'; simp only [subV]; rw [hsi]))
        have z0 := HL9.out.res.cell (show 0 < 5 by decide)
        have z1 := HL9.out.res.cell (show 1 < 5 by decide)
        have z2 := HL9.out.res.cell (show 2 < 5 by decide)
        have z3 := HL9.out.res.cell (show 3 < 5 by decide)
        have z4 := HL9.out.res.cell (show 4 < 5 by decide)
        have g0 := HL9.out.res.frozen 0
        have g1 := HL9.out.res.frozen 1
        have g2 := HL9.out.res.frozen 2
        have g3 := HL9.out.res.frozen 3
        have g4 := HL9.out.res.frozen 4
        simp only [hdAt, Hd.cells, List.getD_cons_succ, List.getD_cons_zero] at z0 z1 z2 z3 z4
        simp only [mI]
        clear hsi
        go_wp2_with fail
        refine bodyPost_ret (v := .tuple #[.agg #[.int .i64 0, .int .i64 0, .string ⟨#[]⟩, .slice none 0 0, .slice none 0 0], .bool false]) (by simp [results, Try.results50, go_sem, z0, z1, z2, z3, z4]; try rfl) rfl ?_
        exact FolR.no HNO.out (res_below HL9.out.bel (Nat.le_succ _))
      | some j =>
        obtain ⟨k, n, t, l, ks, f⟩ := a'
        have hop := HL9.out.lies.op
        have hLs := HL9.out.lies
        simp only [Lies] at hLs
        obtain ⟨⟨e1, e2, e3, e4, e5, e6⟩, -, -⟩ := hLs
        have HLT := Lib.hid (subI_lt e6 HST.out hsi)
        have c3 := HL9.out.box.cell (show 3 < 5 by decide)
        have c4 := HL9.out.box.cell (show 4 < 5 by decide)
        have c0 := HL9.out.box.cell (show 0 < 5 by decide)
        have c1 := HL9.out.box.cell (show 1 < 5 by decide)
        have c2 := HL9.out.box.cell (show 2 < 5 by decide)
        have f0 := HL9.out.box.frozen 0
        have f1 := HL9.out.box.frozen 1
        have f2 := HL9.out.box.frozen 2
        have f3 := HL9.out.box.frozen 3
        have f4 := HL9.out.box.frozen 4
        simp only [hdAt, Hd.cells, List.getD_cons_succ, List.getD_cons_zero] at c0 c1 c2 c3 c4
        rw [e4] at c3
        rw [e5] at c4
        have hll : l.length ≤ 1000 := by have h1 := len_le_cntL l; have h2 := HL9.out.cnt; simp only [Va.cnt] at h2; omega
        have hfl : f.length ≤ 1000 := by have h1 := len_le_cntL f; have h2 := HL9.out.cnt; simp only [Va.cnt] at h2; omega
        clear e1 e2 e3 e4 e5 e6
        simp only [mI]
        have hcj : (0 : Int) ≤ (j : Int) := by omega
        cases hst : s.i
        · obtain ⟨hil, h5⟩ := HLT.out.2 hst
          obtain ⟨x, hx⟩ : ∃ x, f[j]? = some x := ⟨f[j], List.getElem?_eq_getElem hil⟩
          obtain ⟨ad2, u, key, hA2, _, hab, _, _, hLu, hat2⟩ := hop.K j x hx
          rw [hA2] at c4
          obtain ⟨kk, k0, k1, k2, k3, k4⟩ := hat2
          have HSV : Hid (subV (.mk k n t l ks f) s = some x) := Lib.hid (by simp only [subV]; rw [hsi]; simp only; rw [if_neg (by rw [hst]; decide), hx])
          have HLu := Lib.hid hLu
          rw [hst] at r2
          have hcjl : (j : Int) < (f.length : Int) := by omega
          clear hop hx hLu hsi hst HLT hA2
          go_wp2_with fail
          exact ⟨⟨i + 1, x, u, by go_num, by omega, HL9.out.step HPS.out HSV.out HLu.out⟩, by simp [intOf]; omega⟩
        · obtain ⟨hil, h5⟩ := HLT.out.1 hst
          obtain ⟨x, hx⟩ : ∃ x, l[j]? = some x := ⟨l[j], List.getElem?_eq_getElem hil⟩
          obtain ⟨ad2, u, hA2, _, hab, hLu, hat2⟩ := hop.L j x hx
          rw [hA2] at c3
          obtain ⟨k0, k1, k2, k3, k4⟩ := hat2
          have HSV : Hid (subV (.mk k n t l ks f) s = some x) := Lib.hid (by simp only [subV]; rw [hsi]; simp only; rw [if_pos hst, hx])
          have HLu := Lib.hid hLu
          rw [hst] at r2
          have hcjl : (j : Int) < (l.length : Int) := by omega
          clear hop hx hLu hsi hst HLT hA2
          go_wp2_with fail
          exact ⟨⟨i + 1, x, u, by go_num, by omega, HL9.out.step HPS.out HSV.out HLu.out⟩, by simp [intOf]; omega⟩
    · obtain rfl : i = m := by omega
      have HGO : Hid (goV a p = some a') := Lib.hid (by rw [HL.out.go, List.drop_of_length_le (by have := HM.out; omega)]; rfl)
      have z0 := HL.out.res.cell (show 0 < 5 by decide)
      have z1 := HL.out.res.cell (show 1 < 5 by decide)
      have z2 := HL.out.res.cell (show 2 < 5 by decide)
      have z3 := HL.out.res.cell (show 3 < 5 by decide)
      have z4 := HL.out.res.cell (show 4 < 5 by decide)
      have g0 := HL.out.res.frozen 0
      have g1 := HL.out.res.frozen 1
      have g2 := HL.out.res.frozen 2
      have g3 := HL.out.res.frozen 3
      have g4 := HL.out.res.frozen 4
      simp only [hdAt, Hd.cells, List.getD_cons_succ, List.getD_cons_zero] at z0 z1 z2 z3 z4
      go_wp2_with fail
      refine bodyPost_ret (v := .tuple #[.agg #[.int .i64 h'.k, .int .i64 h'.n, .string h'.s, .slice h'.A h'.la h'.lc, .slice h'.F h'.lf h'.fc], .bool true]) (by simp [results, Try.results50, go_sem, z0, z1, z2, z3, z4]; try rfl) rfl ?_
      refine ⟨a', h', true, rfl, res_below HL.out.bel (Nat.le_succ _), ?_, .inl ⟨rfl, HGO.out⟩⟩
      exact Lies.keep (fun q hq _ => World.cell?_of_block (res_set (w := w) _ (fun e => by rw [e] at hq; exact absurd hq (by omega)))) (fun _ _ _ => trivial) _ _ HL.out.lies
end Go.Proofs.Ytmdlcalnncncjaa

/- slices.Clone of values and of pairs. -/
set_option linter.unusedVariables false
set_option linter.unusedSimpArgs false
namespace Go.Proofs.Ytmdlcalnncncjaa
open Go.RowKit
theorem row_news {α : Type} {w : World} {ad : Addr} (fn : α → List Value) (size : Nat) (hs : ∀ u, (fn u).length = size) : ∀ (us : List α) (k : Nat), (∀ (i : Nat) u, us[i]? = some u → ∀ (j : Nat) c, (fn u)[j]? = some c → w.cell? (ad.add (k + (i * size + j))) = some c) → ∀ (j : Nat) c, (us.flatMap fn)[j]? = some c → w.cell? (ad.add (k + j)) = some c
  | [], k, _, j, c, h => by simp at h
  | u :: us, k, H, j, c, h => by
    rw [List.flatMap_cons] at h
    by_cases hj : j < size
    · rw [List.getElem?_append_left (by rw [hs]; exact hj)] at h
      have := H 0 u rfl j c h
      rwa [Nat.zero_mul, Nat.zero_add] at this
    · rw [List.getElem?_append_right (by rw [hs]; omega), hs] at h
      have := row_news fn size hs us (k + size) (fun i v hv j c hc => by
        have h2 := H (i + 1) v (by simpa using hv) j c hc
        rw [show k + ((i + 1) * size + j) = k + size + (i * size + j) by rw [Nat.add_mul]; omega] at h2
        exact h2) (j - size) c h
      rwa [show k + size + (j - size) = k + j by omega] at this
theorem own_empty {w : World} {base : Nat} {e : TypeId} {size : Nat} (hb : base ≤ w.heap.size) : (w.alloc (.cells #[] e)).ownsRow base e size (.slice (some ⟨w.heap.size, 0, none⟩) 0 0) 0 [] :=
  ⟨by simp, .inr ⟨w.heap.size, 0, #[], rfl, hb, heap_alloc_new w _, Nat.le_refl _, by decide, by simp, by simp⟩⟩
/-- What Clone answers. -/
def ClnR (t : TypeId) (size : Nat) (n : Nat) (xs : List Value) (w : World) (e : Ending) (w' : World) : Prop := ∃ g cap, e = .returned (.slice (some ⟨g, 0, none⟩) n cap) ∧ w'.ownsRow w.heap.size t size (.slice (some ⟨g, 0, none⟩) n cap) n xs ∧ Below w.heap.size w w'
set_option maxHeartbeats 1000000 in
set_option maxRecDepth 100000 in
theorem cloneV (us : List Hd) (ad : Addr) (n c : Nat) (w : World) (hn : n = us.length) (h0 : 0 < n) (h1 : n ≤ 1000) (H : ∀ (i : Nat) u, us[i]? = some u → ∀ (j : Nat) c, u.cells[j]? = some c → w.cell? (ad.add (i * 5 + j)) = some c) :
    Calls Try.prog 125 #[.slice (some ad) n c] w fun e w' => ClnR 25 5 n (us.flatMap Hd.cells) w e w' := by
  obtain ⟨i0, hi0, hz0, hz1, hz2⟩ := info_parts info25
  have hln : (us.flatMap Hd.cells).length = n * 5 := by
    rw [hn]
    clear H hn
    induction us with
    | nil => rfl
    | cons u us ih => rw [List.flatMap_cons, List.length_append, ih, cells_len, List.length_cons]; omega
  have hone : ∀ u ∈ us.flatMap Hd.cells, u.oneCell' = true := by
    intro u hu
    obtain ⟨v, _, hv⟩ := List.mem_flatMap.1 hu
    simp only [Hd.cells, List.mem_cons, List.not_mem_nil, or_false] at hv
    rcases hv with rfl | rfl | rfl | rfl | rfl <;> rfl
  have hnews : ∀ (o : Obj) (j : Nat) u, (us.flatMap Hd.cells)[j]? = some u → (w.alloc o).cell? (ad.add j) = some u := fun o j u hu => by
    have h2 := row_news (w := w) (ad := ad) Hd.cells 5 cells_len us 0 (fun i v hv j c hc => by rw [Nat.zero_add]; exact H i v hv j c hc) j u hu
    rw [Nat.zero_add] at h2
    rw [World.cell?_alloc_old _ _ _ (Nat.ne_of_lt (World.block_lt_of_cell? w _ h2))]
    exact h2
  have HLN := Lib.hid hln
  have HON := Lib.hid hone
  have HNE := Lib.hid hnews
  have HOE := Lib.hid (own_empty (w := w) (base := w.heap.size) (e := 25) (size := 5) (Nat.le_refl _))
  have K3 := Lib.hid (show 0 + n ≤ maxLen by unfold maxLen; omega)
  have K4 := Lib.hid (show (0 + n) * 80 ≤ 140737488355328 by omega)
  clear hln hone hnews H hn
  have hEq : (binOp .eql 22 (.slice (some ad) n c) (.slice none 0 0)).run Try.prog w = .ok (.bool false) w := Lib.run_eql_slice_nil w 22 _ (some ad) n c 0 0 Try.underlying22
  go_enter Try.func125, Try.ntmps125
  go_wp2_with (at_builtin; refine wpList_append_lies _ rfl _ _ 22 rfl w.heap.size 25 i0 _ 5 80 Try.underlying22 hi0 hz0 hz1 hz2 rfl (by decide) (.slice (some ⟨w.heap.size, 0, none⟩) 0 0) 0 [] rfl HOE.out ad n c (us.flatMap Hd.cells) rfl HLN.out (HNE.out _) HON.out h0 K3.out K4.out (by simp) _ rfl ?_; intro g cap w3 hown3 hgrow3 hat3 hlt3)
  go_ret
  refine ⟨g, cap, rfl, ?_, ?_⟩
  · rw [Nat.zero_add] at hown3
    simpa using hown3
  · exact ((one_alloc w _)).grown hgrow3 (by simp) (fun k hk => by simp [Value.ownBlock] at hk; omega)
set_option maxHeartbeats 1000000 in
set_option maxRecDepth 100000 in
theorem cloneF (us : List (ByteArray × Hd)) (ad : Addr) (n c : Nat) (w : World) (hn : n = us.length) (h0 : 0 < n) (h1 : n ≤ 1000) (H : ∀ (i : Nat) u, us[i]? = some u → ∀ (j : Nat) c, (pcells u)[j]? = some c → w.cell? (ad.add (i * 6 + j)) = some c) :
    Calls Try.prog 126 #[.slice (some ad) n c] w fun e w' => ClnR 36 6 n (us.flatMap pcells) w e w' := by
  obtain ⟨i0, hi0, hz0, hz1, hz2⟩ := info_parts info36
  have hln : (us.flatMap pcells).length = n * 6 := by
    rw [hn]
    clear H hn
    induction us with
    | nil => rfl
    | cons u us ih => rw [List.flatMap_cons, List.length_append, ih, pcells_len, List.length_cons]; omega
  have hone : ∀ u ∈ us.flatMap pcells, u.oneCell' = true := by
    intro u hu
    obtain ⟨v, _, hv⟩ := List.mem_flatMap.1 hu
    simp only [pcells, Hd.cells, List.mem_cons, List.not_mem_nil, or_false] at hv
    rcases hv with rfl | rfl | rfl | rfl | rfl | rfl <;> rfl
  have hnews : ∀ (o : Obj) (j : Nat) u, (us.flatMap pcells)[j]? = some u → (w.alloc o).cell? (ad.add j) = some u := fun o j u hu => by
    have h2 := row_news (w := w) (ad := ad) pcells 6 pcells_len us 0 (fun i v hv j c hc => by rw [Nat.zero_add]; exact H i v hv j c hc) j u hu
    rw [Nat.zero_add] at h2
    rw [World.cell?_alloc_old _ _ _ (Nat.ne_of_lt (World.block_lt_of_cell? w _ h2))]
    exact h2
  have HLN := Lib.hid hln
  have HON := Lib.hid hone
  have HNE := Lib.hid hnews
  have HOE := Lib.hid (own_empty (w := w) (base := w.heap.size) (e := 36) (size := 6) (Nat.le_refl _))
  have K3 := Lib.hid (show 0 + n ≤ maxLen by unfold maxLen; omega)
  have K4 := Lib.hid (show (0 + n) * 96 ≤ 140737488355328 by omega)
  clear hln hone hnews H hn
  have hEq : (binOp .eql 23 (.slice (some ad) n c) (.slice none 0 0)).run Try.prog w = .ok (.bool false) w := Lib.run_eql_slice_nil w 23 _ (some ad) n c 0 0 Try.underlying23
  go_enter Try.func126, Try.ntmps126
  go_wp2_with (at_builtin; refine wpList_append_lies _ rfl _ _ 23 rfl w.heap.size 36 i0 _ 6 96 Try.underlying23 hi0 hz0 hz1 hz2 rfl (by decide) (.slice (some ⟨w.heap.size, 0, none⟩) 0 0) 0 [] rfl HOE.out ad n c (us.flatMap pcells) rfl HLN.out (HNE.out _) HON.out h0 K3.out K4.out (by simp) _ rfl ?_; intro g cap w3 hown3 hgrow3 hat3 hlt3)
  go_ret
  refine ⟨g, cap, rfl, ?_, ?_⟩
  · rw [Nat.zero_add] at hown3
    simpa using hown3
  · exact ((one_alloc w _)).grown hgrow3 (by simp) (fun k hk => by simp [Value.ownBlock] at hk; omega)
end Go.Proofs.Ytmdlcalnncncjaa

/- A value with another one where a path leads: plain, and in memory. -/
set_option linter.unusedVariables false
set_option linter.unusedSimpArgs false
namespace Go.Proofs.Ytmdlcalnncncjaa
open Go.RowKit
/-- The value in which a path leads to x. -/
def putV : Va → List St → Va → Va
  | _, [], x => x
  | .mk k n t l ks f, s :: p, x => match subI (.mk k n t l ks f) s with
    | some i => if s.i = true then (match l[i]? with | some y => .mk k n t (l.set i (putV y p x)) ks f | none => .mk k n t l ks f) else (match f[i]? with | some y => .mk k n t l ks (f.set i (putV y p x)) | none => .mk k n t l ks f)
    | none => .mk k n t l ks f
theorem putV_L {k n : Int} {t : ByteArray} {l : List Va} {ks : List ByteArray} {f : List Va} {s : St} {p : List St} {x y : Va} {i : Nat} (hi : subI (.mk k n t l ks f) s = some i) (hs : s.i = true) (hy : l[i]? = some y) : putV (.mk k n t l ks f) (s :: p) x = .mk k n t (l.set i (putV y p x)) ks f := by
  simp only [putV]
  rw [hi]
  simp only
  rw [if_pos hs, hy]
theorem putV_F {k n : Int} {t : ByteArray} {l : List Va} {ks : List ByteArray} {f : List Va} {s : St} {p : List St} {x y : Va} {i : Nat} (hi : subI (.mk k n t l ks f) s = some i) (hs : s.i = false) (hy : f[i]? = some y) : putV (.mk k n t l ks f) (s :: p) x = .mk k n t l ks (f.set i (putV y p x)) := by
  simp only [putV]
  rw [hi]
  simp only
  rw [if_neg (by rw [hs]; decide), hy]
theorem goV_cons {k n : Int} {t : ByteArray} {l : List Va} {ks : List ByteArray} {f : List Va} {s : St} {p : List St} {b : Va} (h : goV (.mk k n t l ks f) (s :: p) = some b) : ∃ i y, subI (.mk k n t l ks f) s = some i ∧ (s.i = true → l[i]? = some y) ∧ (s.i = false → f[i]? = some y) ∧ goV y p = some b := by
  simp only [goV] at h
  cases hs : subV (.mk k n t l ks f) s with
  | none => rw [hs] at h; cases h
  | some y =>
    rw [hs] at h
    simp only [subV] at hs
    split at hs
    · rename_i i hi
      refine ⟨i, y, hi, fun e => ?_, fun e => ?_, h⟩
      · rwa [if_pos e] at hs
      · rwa [if_neg (by rw [e]; decide)] at hs
    · cases hs
/-- The five cells of a list's value, written. -/
abbrev putL (w : World) (g o : Nat) (u : Hd) : World := ((((w.setCell ⟨g, o, none⟩ (.int .i64 u.k)).setCell ⟨g, o + 1, none⟩ (.int .i64 u.n)).setCell ⟨g, o + 2, none⟩ (.string u.s)).setCell ⟨g, o + 3, none⟩ (.slice u.A u.la u.lc)).setCell ⟨g, o + 4, none⟩ (.slice u.F u.lf u.fc)
theorem putL_blk {w : World} {g o : Nat} {u : Hd} {b : Nat} (h : b ≠ g) : (putL w g o u).heap[b]? = w.heap[b]? := by
  unfold putL
  rw [Below.heap_setCell _ _ _ _ h, Below.heap_setCell _ _ _ _ h, Below.heap_setCell _ _ _ _ h, Below.heap_setCell _ _ _ _ h, Below.heap_setCell _ _ _ _ h]
theorem putL_other {w : World} {g o p : Nat} {u : Hd} (h : p < o ∨ o + 4 < p) : (putL w g o u).cell? ⟨g, p, none⟩ = w.cell? ⟨g, p, none⟩ := by
  have hne : ∀ q, q ≤ 4 → (⟨g, o + q, none⟩ : Addr) ≠ ⟨g, p, none⟩ := fun q h2 e => by
    injection e with _ e2
    omega
  have h0 := hne 0 (by omega)
  rw [Nat.add_zero] at h0
  unfold putL
  rw [World.cell?_setCell_other _ _ _ _ (hne 4 (by omega)), World.cell?_setCell_other _ _ _ _ (hne 3 (by omega)), World.cell?_setCell_other _ _ _ _ (hne 2 (by omega)), World.cell?_setCell_other _ _ _ _ (hne 1 (by omega)), World.cell?_setCell_other _ _ _ _ h0]
theorem putL_same {w : World} {g o : Nat} {u : Hd} (hs : ∀ j, j ≤ 4 → (w.cell? ⟨g, o + j, none⟩).isSome = true) (j : Nat) (c : Value) (hc : u.cells[j]? = some c) : (putL w g o u).cell? ⟨g, o + j, none⟩ = some c := by
  have h1 := Option.isSome_iff_exists.1 (hs 0 (by omega))
  have h2 := Option.isSome_iff_exists.1 (hs 1 (by omega))
  have h3 := Option.isSome_iff_exists.1 (hs 2 (by omega))
  have h4 := Option.isSome_iff_exists.1 (hs 3 (by omega))
  have h5 := Option.isSome_iff_exists.1 (hs 4 (by omega))
  obtain ⟨v1, h1⟩ := h1
  obtain ⟨v2, h2⟩ := h2
  obtain ⟨v3, h3⟩ := h3
  obtain ⟨v4, h4⟩ := h4
  obtain ⟨v5, h5⟩ := h5
  have hj : j < 5 := (List.getElem?_eq_some_iff.1 hc).1
  unfold putL
  match j, hj with
  | 0, _ =>
    simp only [Hd.cells, List.getElem?_cons_zero, Option.some.injEq] at hc
    subst hc
    rw [World.cell?_setCell_other _ _ _ _ (by simp), World.cell?_setCell_other _ _ _ _ (by simp), World.cell?_setCell_other _ _ _ _ (by simp), World.cell?_setCell_other _ _ _ _ (by simp)]
    exact World.cell?_setCell_same _ _ _ h1
  | 1, _ =>
    simp only [Hd.cells, List.getElem?_cons_succ, List.getElem?_cons_zero, Option.some.injEq] at hc
    subst hc
    rw [World.cell?_setCell_other _ _ _ _ (by simp), World.cell?_setCell_other _ _ _ _ (by simp), World.cell?_setCell_other _ _ _ _ (by simp)]
    exact World.cell?_setCell_same _ _ _ (by rw [World.cell?_setCell_other _ _ _ _ (by simp)]; exact h2)
  | 2, _ =>
    simp only [Hd.cells, List.getElem?_cons_succ, List.getElem?_cons_zero, Option.some.injEq] at hc
    subst hc
    rw [World.cell?_setCell_other _ _ _ _ (by simp), World.cell?_setCell_other _ _ _ _ (by simp)]
    exact World.cell?_setCell_same _ _ _ (by rw [World.cell?_setCell_other _ _ _ _ (by simp), World.cell?_setCell_other _ _ _ _ (by simp)]; exact h3)
  | 3, _ =>
    simp only [Hd.cells, List.getElem?_cons_succ, List.getElem?_cons_zero, Option.some.injEq] at hc
    subst hc
    rw [World.cell?_setCell_other _ _ _ _ (by simp)]
    exact World.cell?_setCell_same _ _ _ (by rw [World.cell?_setCell_other _ _ _ _ (by simp), World.cell?_setCell_other _ _ _ _ (by simp), World.cell?_setCell_other _ _ _ _ (by simp)]; exact h4)
  | 4, _ =>
    simp only [Hd.cells, List.getElem?_cons_succ, List.getElem?_cons_zero, Option.some.injEq] at hc
    subst hc
    exact World.cell?_setCell_same _ _ _ (by rw [World.cell?_setCell_other _ _ _ _ (by simp), World.cell?_setCell_other _ _ _ _ (by simp), World.cell?_setCell_other _ _ _ _ (by simp), World.cell?_setCell_other _ _ _ _ (by simp)]; exact h5)
/-- The rows of a value in memory. -/
theorem Lies.rows {w : World} {S : Nat → Prop} {k n : Int} {t : ByteArray} {l : List Va} {ks : List ByteArray} {f : List Va} {h : Hd} (H : Lies w S (.mk k n t l ks f) h) :
    ∃ us vs, us.length = l.length ∧ vs.length = f.length ∧ RowAt w S 5 h.A (us.map Hd.cells) ∧ LiesL w S l us ∧ RowAt w S 6 h.F ((ks.zip vs).map pcells) ∧ LiesL w S f vs := by
  simp only [Lies] at H
  obtain ⟨-, -, ⟨us, h1, h2⟩, ⟨vs, h3, h4⟩⟩ := H
  exact ⟨us, vs, LiesL_len h2, LiesL_len h4, h1, h2, h3, h4⟩
/-- A list with another value at a place, in a row of its own. -/
theorem lies_setL {w wc wf : World} {S S' : Nat → Prop} {k n : Int} {t : ByteArray} {l : List Va} {ks : List ByteArray} {f : List Va} {h : Hd} {us : List Hd} {g i cap : Nat} {y : Va} {u : Hd} (H : Lies w S (.mk k n t l ks f) h) (hus : LiesL w S l us)
    (hS : ∀ b, S b → S' b) (hSb : ∀ b, S b → b < w.heap.size ∧ wf.heap[b]? = w.heap[b]?) (hg : S' g) (hi : i < l.length)
    (hrow : wc.ownsRow w.heap.size 25 5 (.slice (some ⟨g, 0, none⟩) l.length cap) l.length (us.flatMap Hd.cells)) (hwf : ∀ p, wf.cell? ⟨g, p, none⟩ = (putL wc g (i * 5) u).cell? ⟨g, p, none⟩) (hy : Lies wf S' y u) :
    Lies wf S' (.mk k n t (l.set i y) ks f) ⟨h.k, h.n, h.s, some ⟨g, 0, none⟩, l.length, cap, h.F, h.lf, h.fc⟩ := by
  have hul := LiesL_len hus
  have hc2 : l.length ≤ cap := by
    rcases hrow.2 with ⟨e, _⟩ | ⟨g2, cap2, cur, hv, _, _, hle, _⟩
    · cases e
    · injection hv with _ _ h3; omega
  have hcur : ∀ j, j < l.length * 5 → (wc.cell? ⟨g, j, none⟩).isSome = true := fun j hj => by
    have hl : j < (us.flatMap Hd.cells).length := by rw [hrow.1]; exact hj
    have := hrow.cells rfl j _ (List.getElem?_eq_getElem hl)
    rw [add0] at this
    simp [this]
  have hr0 := row_of_own (S := fun _ => True) Hd.cells us cells_len hrow (fun _ _ => trivial) (.inr (by decide))
  simp only [Lies] at H
  obtain ⟨⟨e1, e2, e3, e4, e5, e6⟩, ⟨b1, b2, b3, b4, b5, b6, b7, b8⟩, -, ⟨vs, hrF, hvs⟩⟩ := H
  have hkeep : ∀ p : Addr, S p.block → p.block < w.heap.size → wf.cell? p = w.cell? p := fun p hp _ => World.cell?_of_block (hSb _ hp).2
  unfold Lies
  refine ⟨⟨e1, e2, e3, by simp, e5, e6⟩, ⟨b1, b2, b3, b4, by rw [List.length_set]; exact b5, b6, by rw [List.length_set]; exact hc2, b8⟩, ⟨us.set i u, ?_, LiesL_mk (by simp [hul]) fun j x v hx hv => ?_⟩, ⟨vs, ?_, LiesL_imp hvs fun x hx v hv => Lies.keep hkeep (fun b hb _ => hS b hb) x v hv⟩⟩
  · intro hp
    obtain ⟨ad, e, _, hc⟩ := hr0 (by simp; omega)
    obtain rfl : ad = ⟨g, 0, none⟩ := by injection e with e; exact e.symm
    refine ⟨⟨g, 0, none⟩, rfl, hg, fun j c hj jj v hv => ?_⟩
    rw [List.getElem?_map, Option.map_eq_some_iff] at hj
    obtain ⟨uu, hu, rfl⟩ := hj
    have hjj : jj < 5 := (List.getElem?_eq_some_iff.1 hv).1
    have hjl : j < us.length := by have := (List.getElem?_eq_some_iff.1 hu).1; rwa [List.length_set] at this
    rw [add0, hwf]
    by_cases ej : j = i
    · subst ej
      rw [List.getElem?_set_self hjl] at hu
      cases hu
      exact putL_same (fun q hq => hcur _ (by omega)) jj v hv
    · rw [List.getElem?_set_ne (by omega)] at hu
      rw [putL_other (by omega)]
      have := hc j uu.cells (by simp [hu]) jj v hv
      rwa [add0] at this
  · by_cases ej : j = i
    · subst ej
      rw [List.getElem?_set_self (by omega)] at hx hv
      cases hx
      cases hv
      exact hy
    · rw [List.getElem?_set_ne (by omega)] at hx hv
      obtain ⟨v', hv', hl'⟩ := LiesL_at hus hx
      rw [hv] at hv'
      cases hv'
      exact Lies.keep hkeep (fun b hb _ => hS b hb) x v hl'
  · exact hrF.keep (fun c hc => by obtain ⟨q, _, rfl⟩ := List.mem_map.1 hc; simp [pcells]) hkeep (fun b hb _ => hS b hb)
/-- An object with another value at a place, in a row of its own. -/
theorem lies_setF {w wc wf : World} {S S' : Nat → Prop} {k n : Int} {t : ByteArray} {l : List Va} {ks : List ByteArray} {f : List Va} {h : Hd} {vs : List Hd} {g i cap : Nat} {y : Va} {u : Hd} (H : Lies w S (.mk k n t l ks f) h) (hvs : LiesL w S f vs)
    (hS : ∀ b, S b → S' b) (hSb : ∀ b, S b → b < w.heap.size ∧ wf.heap[b]? = w.heap[b]?) (hg : S' g) (hi : i < f.length)
    (hrow : wc.ownsRow w.heap.size 36 6 (.slice (some ⟨g, 0, none⟩) f.length cap) f.length ((ks.zip vs).flatMap pcells)) (hwf : ∀ p, wf.cell? ⟨g, p, none⟩ = (put5 wc g (i * 6) u).cell? ⟨g, p, none⟩) (hy : Lies wf S' y u) :
    Lies wf S' (.mk k n t l ks (f.set i y)) ⟨h.k, h.n, h.s, h.A, h.la, h.lc, some ⟨g, 0, none⟩, f.length, cap⟩ := by
  have hul := LiesL_len hvs
  have hc2 : f.length ≤ cap := by
    rcases hrow.2 with ⟨e, _⟩ | ⟨g2, cap2, cur, hv, _, _, hle, _⟩
    · cases e
    · injection hv with _ _ h3; omega
  have hcur : ∀ j, j < f.length * 6 → (wc.cell? ⟨g, j, none⟩).isSome = true := fun j hj => by
    have hl : j < ((ks.zip vs).flatMap pcells).length := by rw [hrow.1]; exact hj
    have := hrow.cells rfl j _ (List.getElem?_eq_getElem hl)
    rw [add0] at this
    simp [this]
  have hr0 := row_of_own (S := fun _ => True) pcells (ks.zip vs) pcells_len hrow (fun _ _ => trivial) (.inr (by decide))
  simp only [Lies] at H
  obtain ⟨⟨e1, e2, e3, e4, e5, e6⟩, ⟨b1, b2, b3, b4, b5, b6, b7, b8⟩, ⟨us, hrL, hus⟩, -⟩ := H
  have hkeep : ∀ p : Addr, S p.block → p.block < w.heap.size → wf.cell? p = w.cell? p := fun p hp _ => World.cell?_of_block (hSb _ hp).2
  unfold Lies
  refine ⟨⟨e1, e2, e3, e4, by simp, by simp; exact e6⟩, ⟨b1, b2, b3, b4, b5, by rw [List.length_set]; exact b6, b7, by rw [List.length_set]; exact hc2⟩, ⟨us, ?_, LiesL_imp hus fun x hx v hv => Lies.keep hkeep (fun b hb _ => hS b hb) x v hv⟩, ⟨vs.set i u, ?_, LiesL_mk (by simp [hul]) fun j x v hx hv => ?_⟩⟩
  · exact hrL.keep (fun c hc => by obtain ⟨q, _, rfl⟩ := List.mem_map.1 hc; simp [Hd.cells]) hkeep (fun b hb _ => hS b hb)
  · intro hp
    have hzl : (ks.zip vs).length = f.length := by rw [List.length_zip, hul, e6]; omega
    obtain ⟨ad, e, _, hc⟩ := hr0 (by rw [List.length_map]; omega)
    obtain rfl : ad = ⟨g, 0, none⟩ := by injection e with e; exact e.symm
    refine ⟨⟨g, 0, none⟩, rfl, hg, fun j c hj jj v hv => ?_⟩
    rw [List.getElem?_map, Option.map_eq_some_iff] at hj
    obtain ⟨⟨ky, uu⟩, hu, rfl⟩ := hj
    obtain ⟨hk2, hv2⟩ := List.getElem?_zip_eq_some.1 hu
    have hjj : jj < 6 := (List.getElem?_eq_some_iff.1 hv).1
    have hjl : j < vs.length := by have := (List.getElem?_eq_some_iff.1 hv2).1; rwa [List.length_set] at this
    have old : ∀ c', (pcells (ky, vs[j]))[jj]? = some c' → wc.cell? ⟨g, j * 6 + jj, none⟩ = some c' := fun c' hc' => by
      have := hc j (pcells (ky, vs[j])) (by rw [List.getElem?_map, show (ks.zip vs)[j]? = some (ky, vs[j]) from List.getElem?_zip_eq_some.2 ⟨hk2, List.getElem?_eq_getElem hjl⟩]; rfl) jj c' hc'
      rwa [add0] at this
    rw [add0, hwf]
    by_cases ej : j = i
    · subst ej
      rw [List.getElem?_set_self hjl] at hv2
      cases hv2
      cases jj with
      | zero =>
        rw [put5_other (by omega)]
        exact old v hv
      | succ jj =>
        have := put5_same (o := j * 6) (fun q h1 h2 => hcur (j * 6 + q) (by omega)) jj v hv
        rwa [show j * 6 + (jj + 1) = j * 6 + 1 + jj by omega]
    · rw [List.getElem?_set_ne (by omega), List.getElem?_eq_getElem hjl] at hv2
      cases hv2
      rw [put5_other (by omega)]
      exact old v hv
  · by_cases ej : j = i
    · subst ej
      rw [List.getElem?_set_self (by omega)] at hx hv
      cases hx
      cases hv
      exact hy
    · rw [List.getElem?_set_ne (by omega)] at hx hv
      obtain ⟨v', hv', hl'⟩ := LiesL_at hvs hx
      rw [hv] at hv'
      cases hv'
      exact Lies.keep hkeep (fun b hb _ => hS b hb) x v hl'
end Go.Proofs.Ytmdlcalnncncjaa
