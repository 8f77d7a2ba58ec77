/- The reference's right, walked. -/
import Derived.Test.YtbinmhcjadkmgaaDoorTRefNo
set_option linter.unusedVariables false
set_option linter.unusedSimpArgs false
namespace Go.Proofs.YtbinmhcjadkmgaaDoor
open Go.RowKit
set_option maxHeartbeats 2000000 in
set_option maxRecDepth 100000 in
theorem right_rec : ∀ (a : Va) (S : Nat → Prop) (h : Hd) (w : World) (d : Nat), Lies w S a h → a.Sh → d ≤ 100 → Calls Tryd.prog 18 #[h.val, .int .i64 d] w fun e w' => YesNo (a.R d) w e w' := by
  intro a
  induction a using Va.ind with
  | h k nn s l ks f ihl ihf =>
  intro S h w d H hsh hd
  have Hop := H.op
  simp only [Lies] at H
  obtain ⟨⟨e1, e2, e3, e4, e5, e6⟩, ⟨b1, b2, b3, b4, b5, b6, b7, b8⟩, -, -⟩ := H
  have hml : maxLen ≤ 9223372036854775807 := by decide
  have b5' : l.length ≤ 9223372036854775807 := Nat.le_trans b5 hml
  have b6' : f.length ≤ 9223372036854775807 := Nat.le_trans b6 hml
  clear hml
  simp only [Va.Sh] at hsh
  obtain ⟨s1, s2, s3, s4⟩ := hsh
  have HSL := Lib.hid s2
  have HSK := Lib.hid s3
  have HSF := Lib.hid s4
  clear s2 s3 s4
  have HR := Lib.hid (show (Va.mk k nn s l ks f).R d ↔ 1 ≤ d ∧ TopP k nn s l.length f.length ∧ KeysP ks ∧ RL l (d - 1) ∧ RL f (d - 1) by simp only [Va.R])
  by_cases hT : 1 ≤ d ∧ TopP k nn s l.length f.length
  case neg =>
    refine (right_no h w d hd (by rw [e3]; exact s1) (by rw [e4]; exact b5') (by rw [e5]; exact b6') (by rw [e2]; exact b2) (by rw [e1, e2, e3, e4, e5]; exact hT)).mono ?_
    rintro e w' ⟨rfl, hb⟩
    exact YesNo.no (fun h => hT ⟨(HR.out.1 h).1, (HR.out.1 h).2.1⟩) hb
  obtain ⟨hd1, hTop⟩ := hT
  obtain ⟨hk, hnn, hs, A, la, lc, F, lf, fc⟩ := h
  simp only at e1 e2 e3 e4 e5 b7 b8
  subst e1 e2 e3 e4 e5
  unfold Hd.val
  simp only
  obtain ⟨k0, k5, c1, c2, c3, c4, c5, c6, c7, c8⟩ := hTop
  have hsy : KeysP ks ∧ RL l (d - 1) ∧ RL f (d - 1) → (Va.mk hk hnn hs l ks f).R d := fun h => HR.out.2 ⟨hd1, ⟨k0, k5, c1, c2, c3, c4, c5, c6, c7, c8⟩, h⟩
  have hsn : (Va.mk hk hnn hs l ks f).R d → KeysP ks ∧ RL l (d - 1) ∧ RL f (d - 1) := fun h => (HR.out.1 h).2.2
  generalize (Va.mk hk hnn hs l ks f).R d = RR at hsy hsn ⊢
  have HY := Lib.hid hsy
  have HN := Lib.hid hsn
  have HRS := Lib.hid c8
  have HE6 := Lib.hid e6
  clear hsy hsn c8 HR e6
  have HKK := Lib.hid (show hk = 0 ∨ hk = 1 ∨ hk = 2 ∨ hk = 3 ∨ hk = 4 ∨ hk = 5 by omega)
  have hb0 : ∀ o1, Below w.heap.size w (w.alloc o1) := fun o1 => (Below.refl _ _).alloc (Nat.le_refl _) _
  have HB0 := Lib.hid hb0
  clear hb0
  rcases HKK.out with rfl | rfl | rfl | rfl | rfl | rfl
  · clear HKK
    obtain rfl : hnn = 0 := by omega
    obtain rfl : hs = ByteArray.empty := empty_of (by omega)
    obtain rfl : l = [] := List.length_eq_zero_iff.1 (by omega)
    obtain rfl : f = [] := List.length_eq_zero_iff.1 (by omega)
    obtain rfl : ks = [] := List.length_eq_zero_iff.1 (by have := HE6.out; simpa using this)
    simp only [List.length_nil] at *
    clear c1 c2 c3 c4 c5
    go_enter Tryd.func18, Tryd.ntmps18
    go_wp2_with fail
    refine (right_ref _ (by decide) _).mono ?_
    rintro e w1 ⟨rfl, rfl⟩
    rw [HRS.out]
    go_wp2_with fail
    refine wp_loop_rounds 1 ?_
    rw [rounds_succ]
    go_wp2_with fail
    refine wp_loop_rounds 1 ?_
    rw [rounds_succ]
    go_wp2_with fail
    go_ret
    exact YesNo.yes (HY.out ⟨KeysP_nil, by simp [RL], by simp [RL]⟩) (HB0.out _)
  · clear HKK
    have hn01 : hnn = 0 ∨ hnn = 1 := by omega
    have HN01 := Lib.hid hn01
    clear hn01
    obtain rfl : hs = ByteArray.empty := empty_of (by omega)
    obtain rfl : l = [] := List.length_eq_zero_iff.1 (by omega)
    obtain rfl : f = [] := List.length_eq_zero_iff.1 (by omega)
    obtain rfl : ks = [] := List.length_eq_zero_iff.1 (by have := HE6.out; simpa using this)
    simp only [List.length_nil] at *
    clear c1 c2 c3 c4 c5
    rcases HN01.out with rfl | rfl
    all_goals (
      go_enter Tryd.func18, Tryd.ntmps18
      go_wp2_with fail
      refine (right_ref _ (by decide) _).mono ?_
      rintro e w1 ⟨rfl, rfl⟩
      rw [HRS.out]
      go_wp2_with fail
      refine wp_loop_rounds 1 ?_
      rw [rounds_succ]
      go_wp2_with fail
      refine wp_loop_rounds 1 ?_
      rw [rounds_succ]
      go_wp2_with fail
      go_ret
      exact YesNo.yes (HY.out ⟨KeysP_nil, by simp [RL], by simp [RL]⟩) (HB0.out _))
  · clear HKK
    obtain rfl : hs = ByteArray.empty := empty_of (by omega)
    obtain rfl : l = [] := List.length_eq_zero_iff.1 (by omega)
    obtain rfl : f = [] := List.length_eq_zero_iff.1 (by omega)
    obtain rfl : ks = [] := List.length_eq_zero_iff.1 (by have := HE6.out; simpa using this)
    simp only [List.length_nil] at *
    clear c1 c2 c3 c4 c5
    go_enter Tryd.func18, Tryd.ntmps18
    go_wp2_with fail
    refine (right_ref _ (by decide) _).mono ?_
    rintro e w1 ⟨rfl, rfl⟩
    rw [HRS.out]
    go_wp2_with fail
    refine wp_loop_rounds 1 ?_
    rw [rounds_succ]
    go_wp2_with fail
    refine wp_loop_rounds 1 ?_
    rw [rounds_succ]
    go_wp2_with fail
    go_ret
    exact YesNo.yes (HY.out ⟨KeysP_nil, by simp [RL], by simp [RL]⟩) (HB0.out _)
  · clear HKK
    obtain rfl : hnn = 0 := by omega
    obtain rfl : l = [] := List.length_eq_zero_iff.1 (by omega)
    obtain rfl : f = [] := List.length_eq_zero_iff.1 (by omega)
    obtain rfl : ks = [] := List.length_eq_zero_iff.1 (by have := HE6.out; simpa using this)
    simp only [List.length_nil] at *
    clear c1 c2 c3 c4 c5
    go_enter Tryd.func18, Tryd.ntmps18
    go_wp2_with fail
    refine (right_ref _ (by omega) _).mono ?_
    rintro e w1 ⟨rfl, rfl⟩
    rw [HRS.out]
    go_wp2_with fail
    refine wp_loop_rounds 1 ?_
    rw [rounds_succ]
    go_wp2_with fail
    refine wp_loop_rounds 1 ?_
    rw [rounds_succ]
    go_wp2_with fail
    go_ret
    exact YesNo.yes (HY.out ⟨KeysP_nil, by simp [RL], by simp [RL]⟩) (HB0.out _)
  · clear HKK
    obtain rfl : hnn = 0 := by omega
    obtain rfl : hs = ByteArray.empty := empty_of (by omega)
    obtain rfl : f = [] := List.length_eq_zero_iff.1 (by omega)
    obtain rfl : ks = [] := List.length_eq_zero_iff.1 (by have := HE6.out; simpa using this)
    simp only [List.length_nil] at *
    clear c1 c2 c3 c4 c5
    go_enter Tryd.func18, Tryd.ntmps18
    go_wp2_with fail
    refine (right_ref _ (by decide) _).mono ?_
    rintro e w1 ⟨rfl, rfl⟩
    rw [HRS.out]
    go_wp2_with fail
    go_loopw [5] (fun iv wr => ∃ (i : Nat), iv = .int .i64 i ∧ i ≤ l.length ∧ RL (l.take i) (d - 1) ∧ BoxAt w wr ⟨4, 0, ByteArray.empty, A, l.length, lc, F, 0, fc⟩) (fun iv _ => l.length - (intOf iv).toNat)
    case atStart => exact ⟨0, rfl, Nat.zero_le _, by simp [RL], BoxAt.start w ⟨4, 0, ByteArray.empty, A, l.length, lc, F, 0, fc⟩ 25⟩
    case round =>
      obtain ⟨i, rfl, hi, hrl, hbx⟩ := hrel
      have HRL := Lib.hid hrl
      have cA := hbx.2.2 3 _ rfl
      have cF := hbx.2.2 4 _ rfl
      have HB := Lib.hid hbx
      clear hbx hrl
      by_cases hlt : i < l.length
      · obtain ⟨ad, u, rfl, _, hbl, hLu, hcell⟩ := Hop.L i _ (List.getElem?_eq_getElem hlt)
        obtain ⟨k0, k1, k2, k3, k4⟩ := hcell.below HB.out.1 hbl
        have hLu' := Lib.hid (hLu.below HB.out.1 (Nat.le_refl _))
        have ihx := Lib.hid (ihl l[i] (List.getElem_mem hlt))
        have hshx := Lib.hid (ShL_mem HSL.out (List.getElem_mem hlt))
        have G1 := Lib.hid (List.getElem?_eq_getElem hlt)
        clear hcell hLu ihl ihf
        have hdd : ((d : Int) - 1) = ((d - 1 : Nat) : Int) := by omega
        go_wp2_with fail
        refine (ihx.out S u _ (d - 1) hLu'.out hshx.out (by omega)).mono ?_
        rintro e w1 ⟨r, rfl, hr, hb1⟩
        have HRR := Lib.hid hr
        clear hr
        cases r
        · go_wp2_with fail
          go_ret
          exact YesNo.no (fun h => by have := HRR.out.2 (RL_mem (HN.out h).2.1 (List.mem_of_getElem? G1.out)); cases this) (HB.out.go hb1 (Nat.le_refl _)).1
        · have hst := Lib.hid (RL_step HRL.out G1.out (HRR.out.1 rfl))
          go_wp2_with fail
          exact ⟨⟨i + 1, by go_num, by omega, hst.out, HB.out.go hb1 (Nat.le_refl _)⟩, by simp [intOf]; omega⟩
      · have hall : Hid (RL l (d - 1)) := by have := HRL.out; rw [List.take_of_length_le (by omega)] at this; exact this
        go_wp2_with fail
        refine wp_loop_rounds 1 ?_
        rw [rounds_succ]
        go_wp2_with fail
        go_ret
        exact YesNo.yes (HY.out ⟨KeysP_nil, hall.out, by simp [RL]⟩) HB.out.1
  · clear HKK
    obtain rfl : hnn = 0 := by omega
    obtain rfl : hs = ByteArray.empty := empty_of (by omega)
    obtain rfl : l = [] := List.length_eq_zero_iff.1 (by omega)
    simp only [List.length_nil] at *
    clear c1 c2 c3 c4 c5
    go_enter Tryd.func18, Tryd.ntmps18
    go_wp2_with fail
    refine (right_ref _ (by decide) _).mono ?_
    rintro e w1 ⟨rfl, rfl⟩
    rw [HRS.out]
    go_wp2_with fail
    refine wp_loop_rounds 1 ?_
    rw [rounds_succ]
    go_wp2_with fail
    go_loopw [6] (fun iv wr => ∃ (i : Nat), iv = .int .i64 i ∧ i ≤ f.length ∧ RL (f.take i) (d - 1) ∧ KeysP (ks.take i) ∧ BoxAt w wr ⟨5, 0, ByteArray.empty, A, 0, lc, F, f.length, fc⟩) (fun iv _ => f.length - (intOf iv).toNat)
    case atStart => exact ⟨0, rfl, Nat.zero_le _, by simp [RL], by simp [KeysP_nil], BoxAt.start w ⟨5, 0, ByteArray.empty, A, 0, lc, F, f.length, fc⟩ 25⟩
    case round =>
      obtain ⟨i, rfl, hi, hrl, hkp, hbx⟩ := hrel
      have HRL := Lib.hid hrl
      have HKP := Lib.hid hkp
      have cF := hbx.2.2 4 _ rfl
      have HB := Lib.hid hbx
      clear hbx hrl hkp
      by_cases hlt : i < f.length
      · obtain ⟨ad, u, key, rfl, _, hbl, hkey, _, hLu, hcell⟩ := Hop.K i _ (List.getElem?_eq_getElem hlt)
        obtain ⟨k0, k1, k2, k3, k4, k5⟩ := hcell.below HB.out.1 hbl
        have hLu' := Lib.hid (hLu.below HB.out.1 (Nat.le_refl _))
        have ihx := Lib.hid (ihf f[i] (List.getElem_mem hlt))
        have hshx := Lib.hid (ShL_mem HSF.out (List.getElem_mem hlt))
        have G1 := Lib.hid (List.getElem?_eq_getElem hlt)
        have GK := Lib.hid hkey
        have hks5 := HSK.out key (List.mem_of_getElem? hkey)
        clear hcell hLu ihl ihf hkey
        have hdd : ((d : Int) - 1) = ((d - 1 : Nat) : Int) := by omega
        go_wp2_with fail
        refine (right_ref key (by omega) _).mono ?_
        rintro e w1 ⟨rfl, rfl⟩
        cases hrk : rightB key
        · go_wp2_with fail
          go_ret
          exact YesNo.no (fun h => by have := (HN.out h).1.1 key (List.mem_of_getElem? GK.out); rw [hrk] at this; cases this) HB.out.1
        · have HRK := Lib.hid hrk
          clear hrk
          go_wp2_with fail
          refine (ihx.out S u _ (d - 1) hLu'.out hshx.out (by omega)).mono ?_
          rintro e w1 ⟨r, rfl, hr, hb1⟩
          have HRR := Lib.hid hr
          have HB1 := Lib.hid (HB.out.go hb1 (Nat.le_refl _))
          clear hr hb1 k0 k1 k2 k3 k4 k5 cF
          cases r
          · go_wp2_with fail
            go_ret
            exact YesNo.no (fun h => by have := HRR.out.2 (RL_mem (HN.out h).2.2 (List.mem_of_getElem? G1.out)); cases this) HB1.out.1
          · have hst := Lib.hid (RL_step HRL.out G1.out (HRR.out.1 rfl))
            have hil : i ≤ 9223372036854775806 := by omega
            go_wp2_with fail
            go_loopw [7] (fun jv wx => ∃ (j : Nat), jv = .int .i64 j ∧ j ≤ i ∧ key ∉ ks.take j ∧ BoxAt w wx ⟨5, 0, ByteArray.empty, A, 0, lc, some ad, f.length, fc⟩) (fun jv _ => i - (intOf jv).toNat)
            case atStart => exact ⟨0, rfl, Nat.zero_le _, by simp, HB1.out⟩
            case round =>
              obtain ⟨j, rfl, hj, hnk, hbx⟩ := hrel
              have HNK := Lib.hid hnk
              have cF := hbx.2.2 4 _ rfl
              have HB2 := Lib.hid hbx
              clear hbx hnk
              by_cases hjt : j < i
              · obtain ⟨ad2, u2, key2, hadd, _, hbl2, hkey2, _, _, hcell2⟩ := Hop.K j _ (List.getElem?_eq_getElem (by omega : j < f.length))
                obtain rfl : ad = ad2 := Option.some.inj hadd
                have k0 := (hcell2.below HB2.out.1 hbl2).1
                obtain ⟨ad3, u3, key3, hadd3, _, hbl3, hkey3, _, _, hcell3⟩ := Hop.K i _ (List.getElem?_eq_getElem hlt)
                obtain rfl : ad = ad3 := Option.some.inj hadd3
                obtain rfl : key = key3 := Option.some.inj (GK.out.symm.trans hkey3)
                have q0 := (hcell3.below HB2.out.1 hbl3).1
                have GK2 := Lib.hid hkey2
                have hjf : (j : Int) < (f.length : Int) := by omega
                have hif : (i : Int) < (f.length : Int) := by omega
                have hj0 : (0 : Int) ≤ (j : Int) := by omega
                have hi0 : (0 : Int) ≤ (i : Int) := by omega
                clear hcell2 hcell3 hkey2 hkey3 hadd hadd3
                by_cases hkk : key2 = key
                · have hkk' := bytes_eq hkk
                  have HKE := Lib.hid hkk
                  clear hkk
                  go_wp2_with fail
                  go_quiet (fail)
                  go_wp2_with fail
                  go_ret
                  refine YesNo.no (fun h => ?_) (below_drewN' HB2.out.1 _)
                  have hnd := (HN.out h).1.2
                  have e1 := GK2.out
                  rw [HKE.out] at e1
                  exact absurd ((List.getElem?_inj (i := j) (j := i) (by have := HE6.out; omega) hnd).1 (e1.trans GK.out.symm)) (by omega)
                · have hkk' := bytes_ne hkk
                  have hnk2 := Lib.hid (show key ∉ ks.take (j + 1) by
                    rw [take_next GK2.out]
                    intro hm
                    rcases List.mem_append.1 hm with hm | hm
                    · exact HNK.out hm
                    · simp at hm; exact hkk hm.symm)
                  clear hkk
                  go_wp2_with fail
                  go_quiet (fail)
                  go_wp2_with fail
                  exact ⟨⟨j + 1, by go_num, by omega, hnk2.out, HB2.out.go (below_drewN' (Below.refl _ _) _) (Nat.le_refl _)⟩, by simp [intOf]; omega⟩
              · have hkp2 := Lib.hid (KeysP_step HKP.out GK.out HRK.out (by have := HNK.out; rwa [(by omega : j = i)] at this))
                go_wp2_with fail
                exact ⟨⟨i + 1, by go_num, by omega, hst.out, hkp2.out, HB2.out⟩, by simp [intOf]; omega⟩
      · have hall : Hid (RL f (d - 1)) := by have := HRL.out; rw [List.take_of_length_le (by omega)] at this; exact this
        have hkall : Hid (KeysP ks) := by have := HKP.out; rw [List.take_of_length_le (by have := HE6.out; omega)] at this; exact this
        go_wp2_with fail
        go_ret
        exact YesNo.yes (HY.out ⟨hkall.out, by simp [RL], hall.out⟩) HB.out.1
end Go.Proofs.YtbinmhcjadkmgaaDoor
