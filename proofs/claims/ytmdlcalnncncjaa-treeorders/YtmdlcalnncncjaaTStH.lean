/- slices.SortStableFunc of pairs. -/
import Derived.Test.YtmdlcalnncncjaaTStF
import Derived.Test.YtmdlcalnncncjaaTStG
import Derived.Test.YtmdlcalnncncjaaTStS
set_option linter.unusedVariables false
set_option linter.unusedSimpArgs false
namespace Go.Proofs.Ytmdlcalnncncjaa
open Go.RowKit
/-- What a stable sort leaves. -/
def StbR (w0 : World) (B N : Nat) (rk : ByteArray → Int) (d : Array Eo) (e : Ending) (w' : World) : Prop := e = .returned (.tuple #[]) ∧ ∃ d', Sw w0 B d' w' ∧ Go.Sort.PermIn 0 N d d' ∧ St.Srt (rkE rk) Eo.ix d' 0 N
set_option maxHeartbeats 4000000 in
set_option maxRecDepth 100000 in
theorem stab_any (w0 : World) (B N c Rv : Nat) (rk : ByteArray → Int) (d : Array Eo) (w : World) (H : Sw w0 B d w) (hC : CmpOk w0 B Rv rk) (hN : N = d.size) (h4 : N ≤ 1000) (hup : ∀ i j, i < j → j < N → d[i]!.ix < d[j]!.ix) :
    Calls Try.prog 108 #[.slice (some ⟨B, 0, none⟩) N c, .int .i64 N, cmpV Rv] w fun e w' => StbR w0 B N rk d e w' := by
  have HH := Lib.hid H
  have HN := Lib.hid hN
  have HUP := Lib.hid hup
  have HIN := Lib.hid (fun (lo hi : Nat) (dk : Array Eo) (wx : World) (hx : Sw w0 B dk wx) (hn : N = dk.size) (q1 : lo ≤ hi) (q2 : hi ≤ N) (q3 : ∀ i j, lo ≤ i → i < j → j < hi → dk[i]!.ix < dk[j]!.ix) => ins_any w0 B N c lo hi Rv rk dk wx hx hC hn h4 q1 q2 q3)
  have HSY := Lib.hid (fun (a m bb : Nat) (dk : Array Eo) (wx : World) (hx : Sw w0 B dk wx) (hp : Pre rk N dk a m bb) => merge_any 1000 w0 B N c a m bb Rv rk dk wx hx hC hp (by have := hp.bn; omega))
  clear H hN hup
  go_enter Try.func108, Try.ntmps108
  go_wp2_with fail
  go_loopw [7, 8] (fun av bv wr => ∃ (a k : Nat) (dk : Array Eo), av = .int .i64 a ∧ bv = .int .i64 (a + 20 : Nat) ∧ a = 20 * k ∧ a ≤ N ∧ Sw w0 B dk wr ∧ St.Fst (rkE rk) Eo.ix d dk N 20 k) (fun av _ _ => N + 20 - (intOf av).toNat)
  case atStart => exact ⟨0, 0, d, rfl, rfl, rfl, Nat.zero_le _, HH.out, St.Fst.start HN.out HUP.out⟩
  case round =>
    obtain ⟨a, k, dk, rfl, rfl, hak, ha, hS, hF⟩ := hrel
    have HS := Lib.hid hS
    have HF := Lib.hid hF
    have HA := Lib.hid hak
    have HU2 := Lib.hid (show ∀ i j, a ≤ i → i < j → j < N → dk[i]!.ix < dk[j]!.ix from fun i j x y z => by rw [hF.e i (by omega), hF.e j (by omega)]; exact HUP.out i j y z)
    clear hS hF hak
    obtain ⟨q, hq⟩ : ∃ q : Nat, q = a + 20 := ⟨_, rfl⟩
    rw [← hq]
    have hq1 : a < q := by omega
    have HQ := Lib.hid hq
    clear hq
    by_cases hlt : q ≤ N
    · go_wp2_with fail
      refine (HIN.out a q dk wr HS.out HF.out.n (by omega) hlt (fun i j x y z => HU2.out i j x y (by omega))).mono ?_
      rintro e w1 ⟨rfl, d1, hs1, hm1⟩
      have HS1 := Lib.hid hs1
      have HF1 := Lib.hid (HF.out.step HA.out (show q = a + 20 from HQ.out) hlt hm1)
      clear hs1 hm1
      go_wp2_with fail
      exact ⟨⟨q, k + 1, d1, rfl, by have := HQ.out; go_num, by have := HA.out; have := HQ.out; omega, hlt, HS1.out, HF1.out⟩, by simp [intOf]; omega⟩
    · go_wp2_with fail
      refine (HIN.out a N dk wr HS.out HF.out.n ha (Nat.le_refl _) HU2.out).mono ?_
      rintro e w1 ⟨rfl, d1, hs1, hm1⟩
      have HS1 := Lib.hid hs1
      have HB1 := Lib.hid (HF.out.last HA.out ha (by have := HQ.out; omega) hm1)
      have HN1 : Hid (N = d1.size) := Lib.hid (by rw [hm1.1.1]; exact HF.out.n)
      clear hs1 hm1
      go_wp2_with fail
      go_loopw [6] (fun sv wt => ∃ (bs : Nat) (dk : Array Eo), sv = .int .i64 bs ∧ 20 ≤ bs ∧ bs ≤ 2000 ∧ Sw w0 B dk wt ∧ St.Blk (rkE rk) Eo.ix dk N bs ∧ Go.Sort.PermIn 0 N d dk ∧ N = dk.size) (fun sv _ => 4000 - (intOf sv).toNat)
      case atStart => exact ⟨20, d1, rfl, Nat.le_refl _, by omega, HS1.out, HB1.out.1, HB1.out.2, HN1.out⟩
      case round =>
        clear HS1 HB1 HN1 HS HF HU2
        obtain ⟨bs, d2, rfl, hs1, hs2, hS, hB, hP, hn⟩ := hrel
        have HS := Lib.hid hS
        have HB := Lib.hid hB
        have HP := Lib.hid hP
        have HN2 := Lib.hid hn
        clear hS hB hP hn
        by_cases hbs : bs < N
        · have hmul : (2 : Int) * (bs : Int) = ((2 * bs : Nat) : Int) := by omega
          obtain ⟨b2, hb2⟩ : ∃ b2 : Nat, b2 = 2 * bs := ⟨_, rfl⟩
          rw [← hb2] at hmul
          have hb2a : bs < b2 := by omega
          have hb2c : b2 ≤ 2000 := by omega
          have HB2 := Lib.hid hb2
          clear hb2
          go_wp2_with fail
          go_loopw [7, 8] (fun av bv wt => ∃ (a k : Nat) (dk : Array Eo), av = .int .i64 a ∧ bv = .int .i64 (a + b2 : Nat) ∧ a = bs * (2 * k) ∧ a ≤ N ∧ Sw w0 B dk wt ∧ St.Md (rkE rk) Eo.ix d dk N bs k) (fun av _ _ => N + 2000 - (intOf av).toNat)
          case atStart => exact ⟨0, 0, d2, rfl, by simp, by simp, Nat.zero_le _, HS.out, St.Md.start HB.out HN2.out HP.out⟩
          case round =>
            clear HS HB HP HN2
            obtain ⟨a', k', d3, rfl, rfl, hak', ha', hS, hM⟩ := hrel
            have HS := Lib.hid hS
            have HM := Lib.hid hM
            have HA' := Lib.hid hak'
            clear hS hM hak'
            obtain ⟨q2, hq2⟩ : ∃ q2 : Nat, q2 = a' + b2 := ⟨_, rfl⟩
            obtain ⟨m2, hm2⟩ : ∃ m2 : Nat, m2 = a' + bs := ⟨_, rfl⟩
            rw [← hq2]
            have hms : (a' : Int) + (bs : Int) = (m2 : Int) := by omega
            have hm3 : a' < m2 := by omega
            have hm4 : m2 < q2 := by omega
            have hq3 : q2 ≤ a' + 2000 := by omega
            have HQ2 := Lib.hid hq2
            have HM2 := Lib.hid hm2
            clear hq2 hm2
            by_cases hlt2 : q2 ≤ N
            · have HPRE : Hid (Pre rk N d3 a' m2 q2) := Lib.hid (by
                have h8 := HM.out.pre HA'.out q2 (by have := HQ2.out; have := HB2.out; omega) (by have := HM2.out; omega)
                rw [← HM2.out] at h8
                exact ⟨HM.out.n, hm3, hm4, hlt2, h4, h8.1, h8.2.1, h8.2.2⟩)
              go_wp2_with fail
              refine (HSY.out a' m2 q2 d3 wr HS.out HPRE.out).mono ?_
              rintro e w1 ⟨rfl, d4, hs4, hm4'⟩
              have HS4 := Lib.hid hs4
              have HM4 := Lib.hid (HM.out.step HA'.out (show q2 = a' + 2 * bs by have := HQ2.out; have := HB2.out; omega) hlt2 hm4')
              clear hs4 hm4'
              go_wp2_with fail
              exact ⟨⟨q2, k' + 1, d4, rfl, by have := HQ2.out; have := HB2.out; go_num, by have h1 := HA'.out; have h2 := HQ2.out; have h3 := HB2.out; rw [show 2 * (k' + 1) = 2 * k' + 2 by omega, Nat.mul_succ, Nat.mul_succ]; omega, hlt2, HS4.out, HM4.out⟩, by simp [intOf]; omega⟩
            · by_cases hml : m2 < N
              · have HPRE : Hid (Pre rk N d3 a' m2 N) := Lib.hid (by
                  have h8 := HM.out.pre HA'.out N (by have := HQ2.out; have := HB2.out; omega) (by have := HM2.out; omega)
                  rw [← HM2.out] at h8
                  exact ⟨HM.out.n, hm3, hml, Nat.le_refl _, h4, h8.1, h8.2.1, h8.2.2⟩)
                go_wp2_with fail
                refine (HSY.out a' m2 N d3 wr HS.out HPRE.out).mono ?_
                rintro e w1 ⟨rfl, d4, hs4, hm4'⟩
                have HS4 := Lib.hid hs4
                have HM4 := Lib.hid (HM.out.last HA'.out ha' (by have := HQ2.out; have := HB2.out; omega) hm4')
                clear hs4 hm4'
                go_wp2_with fail
                exact ⟨⟨b2, d4, by rw [show ((bs : Int) * 2) = (b2 : Int) by have := HB2.out; omega], by omega, by omega, HS4.out, by rw [HB2.out]; exact HM4.out.1, HM4.out.2.1, HM4.out.2.2⟩, by have := HB2.out; simp [intOf]; omega⟩
              · have HM4 := Lib.hid (HM.out.last HA'.out ha' (by have := HQ2.out; have := HB2.out; omega) (HM.out.none HA'.out ha' (by have := HM2.out; omega)))
                go_wp2_with fail
                exact ⟨⟨b2, d3, by rw [show ((bs : Int) * 2) = (b2 : Int) by have := HB2.out; omega], by omega, by omega, HS.out, by rw [HB2.out]; exact HM4.out.1, HM4.out.2.1, HM4.out.2.2⟩, by have := HB2.out; simp [intOf]; omega⟩
        · have HDONE := Lib.hid (HB.out.done (by omega))
          go_wp2_with fail
          go_end0
          exact ⟨rfl, d2, HS.out, HP.out, HDONE.out⟩
theorem sort_any (w0 : World) (B N c Rv : Nat) (rk : ByteArray → Int) (d : Array Eo) (w : World) (H : Sw w0 B d w) (hC : CmpOk w0 B Rv rk) (hN : N = d.size) (h4 : N ≤ 1000) (hup : ∀ i j, i < j → j < N → d[i]!.ix < d[j]!.ix) :
    Calls Try.prog 81 #[.slice (some ⟨B, 0, none⟩) N c, cmpV Rv] w fun e w' => StbR w0 B N rk d e w' := by
  have HS := Lib.hid (stab_any w0 B N c Rv rk d w H hC hN h4 hup)
  clear H hC hN hup
  go_enter Try.func81, Try.ntmps81
  go_wp2_with fail
  refine HS.out.mono ?_
  rintro e w1 ⟨rfl, hb1⟩
  have HB1 := Lib.hid hb1
  clear hb1 HS
  go_wp2_with fail
  go_end0
  exact ⟨rfl, HB1.out⟩
end Go.Proofs.Ytmdlcalnncncjaa
