/- The reference's Right, Same, Under and Value of paths. -/
import Derived.Test.YtmdlcalnncncjaaPVal
set_option linter.unusedVariables false
set_option linter.unusedSimpArgs false
namespace Go.Proofs.Ytmdlcalnncncjaa
open Go.RowKit
set_option maxHeartbeats 1000000 in
set_option maxRecDepth 100000 in
theorem path_right_ref (p : List St) (A : Option Addr) (n c : Nat) (w : World) (hnl : n = p.length) (hn : p.length ≤ maxLen) (hA : PathAt w A p) (hkk : ∀ s ∈ p, s.k.size ≤ 4294967296) :
    Calls Try.prog 41 #[.slice A n c] w fun e w' => YesNo (PathR p) w e w' := by
  subst hnl
  unfold maxLen at hn
  go_enter Try.func41, Try.ntmps41
  go_wp2_with fail
  go_loopw [3] (fun iv wr => ∃ i : Nat, iv = .int .i64 i ∧ i ≤ p.length ∧ i ≤ 40 ∧ (∀ s ∈ p.take i, StR s) ∧ Below w.heap.size w wr) (fun iv _ => p.length - (intOf iv).toNat)
  case atStart => exact ⟨0, rfl, Nat.zero_le _, Nat.zero_le _, by simp, Below.refl _ _⟩
  case round =>
    obtain ⟨i, rfl, hi, hi2, ht, hbel⟩ := hrel
    have HT := Lib.hid ht
    have HB := Lib.hid hbel
    clear ht hbel
    by_cases h1 : i < p.length
    · by_cases h2 : i < 40
      · obtain ⟨s, hs⟩ : ∃ s, p[i]? = some s := ⟨p[i], List.getElem?_eq_getElem h1⟩
        obtain ⟨ad, rfl, hbl, hc, hok⟩ := hA i s hs
        obtain ⟨q0, q1, q2⟩ := hc.below HB.out hbl
        have HS := Lib.hid hs
        have HKK := Lib.hid (hkk s (List.mem_of_getElem? hs))
        have HNO := Lib.hid (show ¬ StR s → ¬ PathR p from fun h k => h (k.2 s (List.mem_of_getElem? hs)))
        have HYE := Lib.hid (show StR s → ∀ t ∈ p.take (i + 1), StR t from fun h => all_next HT.out HS.out h)
        have HBA := Lib.hid (fun o : Obj => HB.out.trans ((one_alloc wr o).mono HB.out.size))
        clear hs hok hc
        obtain ⟨sk, sa, si⟩ := s
        simp only at q0 q1 q2 HKK
        cases si
        · by_cases h0 : sa = 0
          · subst h0
            generalize hr : rightB sk = r
            have HR := Lib.hid hr
            have K := Lib.hid (fun W => right_ref sk HKK.out W)
            rw [hr] at K
            clear hr
            cases r
            · go_wp2_with (go_at_call 32; refine (K.out _).mono ?_; rintro e w2 ⟨rfl, rfl⟩)
              go_ret
              refine YesNo.no (HNO.out fun h => ?_) (HBA.out _)
              rcases h with ⟨h, _⟩ | ⟨_, _, h⟩
              · cases h
              · have := HR.out; simp only at h; rw [h] at this; cases this
            · go_wp2_with (go_at_call 32; refine (K.out _).mono ?_; rintro e w2 ⟨rfl, rfl⟩)
              exact ⟨⟨i + 1, by go_num, by omega, by omega, HYE.out (.inr ⟨rfl, rfl, HR.out⟩), HBA.out _⟩, by simp [intOf]; omega⟩
          · have h0' := bq_no h0
            have HE := Lib.hid h0
            clear h0
            go_wp2_with fail
            go_ret
            refine YesNo.no (HNO.out fun h => ?_) (HBA.out _)
            rcases h with ⟨h, _⟩ | ⟨_, h, _⟩
            · cases h
            · exact HE.out h
        · by_cases h0 : sk.size = 0
          · obtain rfl : sk = ⟨#[]⟩ := empty_of h0
            by_cases h3 : sa < 0
            · go_wp2_with fail
              go_ret
              refine YesNo.no (HNO.out fun h => ?_) (HBA.out _)
              rcases h with ⟨_, _, h, _⟩ | ⟨h, _⟩
              · simp only at h; omega
              · cases h
            · by_cases h4 : 9007199254740991 < sa
              · go_wp2_with fail
                go_ret
                refine YesNo.no (HNO.out fun h => ?_) (HBA.out _)
                rcases h with ⟨_, _, _, h⟩ | ⟨h, _⟩
                · simp only at h; omega
                · cases h
              · go_wp2_with fail
                exact ⟨⟨i + 1, by go_num, by omega, by omega, HYE.out (.inl ⟨rfl, rfl, by simp only; omega, by simp only; omega⟩), HBA.out _⟩, by simp [intOf]; omega⟩
          · have ds := ne_empty h0
            have HE := Lib.hid h0
            clear h0
            go_wp2_with fail
            go_ret
            refine YesNo.no (HNO.out fun h => ?_) (HBA.out _)
            rcases h with ⟨_, h, _⟩ | ⟨h, _⟩
            · exact HE.out h
            · cases h
      · have h5 : ¬ p.length ≤ 30 := by omega
        go_wp2_with fail
        go_ret
        refine ⟨_, rfl, ⟨fun h => ?_, fun h => absurd h.1 h5⟩, HB.out⟩
        simp at h
        omega
    · have HN : Hid (∀ s ∈ p, StR s) := Lib.hid (by have := HT.out; rwa [List.take_of_length_le (by omega)] at this)
      go_wp2_with fail
      go_ret
      refine ⟨_, rfl, ⟨fun h => ⟨?_, HN.out⟩, fun h => ?_⟩, HB.out⟩
      · simp at h; omega
      · have := h.1; simp; omega
theorem take_all_eq {p q : List St} (hl : p.length = q.length) {i : Nat} (hi : p.length ≤ i) (h : p.take i = q.take i) : p = q := by
  rwa [List.take_of_length_le hi, List.take_of_length_le (by omega)] at h
set_option maxHeartbeats 1000000 in
set_option maxRecDepth 100000 in
theorem path_same_ref (p q : List St) (A B : Option Addr) (n m c d : Nat) (w : World) (hnl : n = p.length) (hml : m = q.length) (hA : PathAt w A p) (hB : PathAt w B q) (hp : p.length ≤ 1000) (hq : q.length ≤ maxLen) :
    Calls Try.prog 47 #[.slice A n c, .slice B m d] w fun e w' => YesNo (p = q) w e w' := by
  subst hnl hml
  unfold maxLen at hq
  by_cases hl : p.length = q.length
  case neg =>
    have hl' : ((p.length : Int) == (q.length : Int)) = false := by simp; omega
    have HE := Lib.hid hl
    clear hl
    go_enter Try.func47, Try.ntmps47
    go_wp2_with fail
    go_ret
    exact YesNo.no (fun h => HE.out (by rw [h])) (Below.refl _ _)
  have hl' : ((p.length : Int) == (q.length : Int)) = true := by simp; omega
  have HL := Lib.hid hl
  go_enter Try.func47, Try.ntmps47
  go_wp2_with fail
  go_loopw [5] (fun iv wr => ∃ i : Nat, iv = .int .i64 i ∧ i ≤ p.length ∧ p.take i = q.take i ∧ Below w.heap.size w wr) (fun iv _ => p.length - (intOf iv).toNat)
  case atStart => exact ⟨0, rfl, Nat.zero_le _, by simp, Below.refl _ _⟩
  case round =>
    obtain ⟨i, rfl, hi, ht, hbel⟩ := hrel
    have HT := Lib.hid ht
    have HB := Lib.hid hbel
    clear ht hbel
    by_cases h1 : i < p.length
    · have h2 : i < q.length := by omega
      obtain ⟨s, hs⟩ : ∃ s, p[i]? = some s := ⟨p[i], List.getElem?_eq_getElem h1⟩
      obtain ⟨t, ht⟩ : ∃ t, q[i]? = some t := ⟨q[i], List.getElem?_eq_getElem h2⟩
      obtain ⟨ad, rfl, hbl, hc, -⟩ := hA i s hs
      obtain ⟨bd, rfl, hbl2, hc2, -⟩ := hB i t ht
      obtain ⟨q0, q1, q2⟩ := hc.below HB.out hbl
      obtain ⟨r0, r1, r2⟩ := hc2.below HB.out hbl2
      have HS := Lib.hid hs
      have HT2 := Lib.hid ht
      clear hc hc2 hs ht hbl hbl2
      have HNE := Lib.hid (show s ≠ t → p ≠ q from fun h e => by
        have a := HS.out
        have b := HT2.out
        rw [e, b] at a
        cases a
        exact h rfl)
      obtain ⟨sk, sa, si⟩ := s
      obtain ⟨tk, ta, ti⟩ := t
      simp only at q0 q1 q2 r0 r1 r2
      by_cases ek : sk = tk
      · by_cases ea : sa = ta
        · by_cases ei : si = ti
          · subst ek ea ei
            have HN := Lib.hid (take_two HT.out HS.out HT2.out)
            go_wp2_with fail
            go_quiet (fail)
            go_wp2_with fail
            exact ⟨⟨i + 1, by go_num, by omega, HN.out, below_drewN3 HB.out _⟩, by simp [intOf]; omega⟩
          · have HM := Lib.hid (HNE.out (by simp [ei]))
            have ek' := bytes_eq ek
            have ei' : (si == ti) = false := by simpa using ei
            subst ea
            clear ek ei HNE
            go_wp2_with fail
            go_quiet (fail)
            go_wp2_with fail
            go_ret
            exact YesNo.no HM.out (below_drewN3 HB.out _)
        · have HM := Lib.hid (HNE.out (by simp [ea]))
          have ek' := bytes_eq ek
          have ea' : (sa == ta) = false := by simpa using ea
          clear ek ea HNE
          go_wp2_with fail
          go_quiet (fail)
          go_wp2_with fail
          go_ret
          exact YesNo.no HM.out (below_drewN3 HB.out _)
      · have HM := Lib.hid (HNE.out (by simp [ek]))
        have ek' := bytes_ne ek
        clear ek HNE
        go_wp2_with fail
        go_quiet (fail)
        go_wp2_with fail
        go_ret
        exact YesNo.no HM.out (below_drewN3 HB.out _)
    · have HM := Lib.hid (take_all_eq hl (by omega) HT.out)
      go_wp2_with fail
      go_ret
      exact YesNo.yes HM.out HB.out
theorem PathAt.take {w : World} {A : Option Addr} {p : List St} (h : PathAt w A p) (n : Nat) : PathAt w A (p.take n) := fun i s hs => by
  by_cases e : i < n
  · rw [List.getElem?_take_of_lt e] at hs
    exact h i s hs
  · rw [List.getElem?_take_eq_none (by omega)] at hs
    cases hs
theorem PathAt.some {w : World} {A : Option Addr} {p : List St} (h : PathAt w A p) (hp : 0 < p.length) : ∃ ad, A = Option.some ad := by
  obtain ⟨ad, e, _⟩ := h 0 p[0] (List.getElem?_eq_getElem hp)
  exact ⟨ad, e⟩
theorem path_under_ref (p q : List St) (A B : Option Addr) (n m c d : Nat) (w : World) (hnl : n = p.length) (hml : m = q.length) (hA : PathAt w A p) (hB : PathAt w B q) (hp : p.length ≤ 1000) (hq : q.length ≤ maxLen) (hd : q.length ≤ d) :
    Calls Try.prog 53 #[.slice A n c, .slice B m d] w fun e w' => YesNo (p.length ≤ q.length ∧ p = q.take p.length) w e w' := by
  subst hnl hml
  by_cases hl : p.length ≤ q.length
  case neg =>
    unfold maxLen at hq
    go_enter Try.func53, Try.ntmps53
    go_wp2_with fail
    go_ret
    exact YesNo.no (fun h => hl h.1) (Below.refl _ _)
  have K : Hid (Calls Try.prog 47 #[.slice A p.length c, .slice B p.length d] w fun e w' => YesNo (p = q.take p.length) w e w') := Lib.hid (path_same_ref p (q.take p.length) A B p.length p.length c d w rfl (by simp; omega) hA (hB.take _) hp (by rw [List.length_take]; omega))
  have hpd : p.length ≤ d := by omega
  unfold maxLen at hq
  have HS := Lib.hid (hB.some)
  clear hA hB
  cases B with
  | none =>
    have hq0 : q.length = 0 := by
      rcases Nat.eq_zero_or_pos q.length with h | h
      · exact h
      · obtain ⟨ad, e⟩ := HS.out h; cases e
    have hp0 : p.length = 0 := by omega
    clear HS
    rw [hp0] at K hl hpd hp ⊢
    go_enter Try.func53, Try.ntmps53
    go_wp2_with fail
    refine K.out.mono ?_
    rintro e w1 ⟨r, rfl, hr, hb1⟩
    have HR := Lib.hid hr
    have HB1 := Lib.hid hb1
    clear hr hb1 K
    go_wp2_with fail
    go_ret
    exact ⟨_, rfl, ⟨fun h => ⟨hl, HR.out.1 (by simpa using h)⟩, fun h => by simpa using HR.out.2 h.2⟩, HB1.out⟩
  | some bd =>
    clear HS
    go_enter Try.func53, Try.ntmps53
    go_wp2_with fail
    refine K.out.mono ?_
    rintro e w1 ⟨r, rfl, hr, hb1⟩
    have HR := Lib.hid hr
    have HB1 := Lib.hid hb1
    clear hr hb1 K
    go_wp2_with fail
    go_ret
    exact ⟨_, rfl, ⟨fun h => ⟨hl, HR.out.1 (by simpa using h)⟩, fun h => by simpa using HR.out.2 h.2⟩, HB1.out⟩
end Go.Proofs.Ytmdlcalnncncjaa
