/- symMerge of pairs: one element against a run. -/
import Derived.Test.YtmdlcalnncncjaaTStB
set_option linter.unusedVariables false
set_option linter.unusedSimpArgs false
namespace Go.Proofs.Ytmdlcalnncncjaa
open Go.RowKit
/-- What is asked of the comparison. -/
def CmpOk (w0 : World) (B Rv : Nat) (rk : ByteArray → Int) : Prop := ∀ wr, Kp B w0 wr → ∀ (k1 k2 : ByteArray) (u1 u2 : Hd), k1.size ≤ maxLen → k2.size ≤ maxLen →
  Calls Try.prog 82 #[.agg #[.string k1, .int .i64 u1.k, .int .i64 u1.n, .string u1.s, .slice u1.A u1.la u1.lc, .slice u1.F u1.lf u1.fc], .agg #[.string k2, .int .i64 u2.k, .int .i64 u2.n, .string u2.s, .slice u2.A u2.la u2.lc, .slice u2.F u2.lf u2.fc], .pointer (some ⟨Rv, 0, none⟩)] wr fun e w' => e = .returned (.int .i64 (cmpI (rk k1) (rk k2))) ∧ Below wr.heap.size wr w'
abbrev rkE (rk : ByteArray → Int) (e : Eo) : Int := rk e.key
theorem cmpI_lt (x y : Int) : cmpI x y < 0 ↔ x < y := by
  unfold cmpI
  split
  · simp_all
  · split <;> simp_all
/-- Two runs, the first one older. -/
structure Pre (rk : ByteArray → Int) (N : Nat) (d : Array Eo) (a m bb : Nat) : Prop where
  n : N = d.size
  am : a < m
  mb : m < bb
  bn : bb ≤ N
  nb : N ≤ 1000
  s1 : St.Srt (rkE rk) Eo.ix d a m
  s2 : St.Srt (rkE rk) Eo.ix d m bb
  old : St.Old Eo.ix d a m bb
set_option maxHeartbeats 4000000 in
set_option maxRecDepth 100000 in
theorem merge_one (w0 : World) (B N c a m bb Rv : Nat) (rk : ByteArray → Int) (d : Array Eo) (w : World) (H : Sw w0 B d w) (hC : CmpOk w0 B Rv rk) (hP : Pre rk N d a m bb) (h1 : m = a + 1) :
    Calls Try.prog 123 #[.slice (some ⟨B, 0, none⟩) N c, .int .i64 a, .int .i64 m, .int .i64 bb, cmpV Rv] w fun e w' => e = .returned (.tuple #[]) ∧ ∃ d', Sw w0 B d' w' ∧ St.Mrg (rkE rk) Eo.ix d d' a bb := by
  have hma : ((m : Int) - (a : Int) == 1) = true := by simp; omega
  have hma2 : (m : Int) - (a : Int) = 1 := by omega
  have HP := Lib.hid hP
  have HH := Lib.hid H
  have HN := Lib.hid hP.n
  have h2 := hP.mb
  have h3 := hP.bn
  have h4 := hP.nb
  have ham : a < m := by omega
  have HM := Lib.hid h1
  clear h1 H hP
  go_enter Try.func123, Try.ntmps123
  go_wp2_with fail
  go_loopw [10, 11] (fun iv jv wr => ∃ i j : Nat, iv = .int .i64 i ∧ jv = .int .i64 j ∧ m ≤ i ∧ i ≤ j ∧ j ≤ bb ∧ Sw w0 B d wr ∧ St.Fnd1 (rkE rk) Eo.ix d a m bb i j) (fun iv jv _ => (intOf jv).toNat - (intOf iv).toNat)
  case atStart => exact ⟨m, bb, rfl, rfl, Nat.le_refl _, by omega, Nat.le_refl _, HH.out, St.Fnd1.start (by omega)⟩
  case round =>
    obtain ⟨i, j, rfl, rfl, hi, hij, hj, hS, hF⟩ := hrel
    have HS := Lib.hid hS
    have HF := Lib.hid hF
    clear hS hF
    by_cases hlt : i < j
    · obtain ⟨hh, hhe⟩ : ∃ hh : Nat, hh = (i + j) / 2 := ⟨_, rfl⟩
      have hh1 : i ≤ hh := by omega
      have hh2 : hh < j := by omega
      have hdv : ((i : Int) + (j : Int)) / 2 = (hh : Int) := by omega
      clear hhe
      obtain ⟨p0, p1, p2, p3, p4, p5⟩ := HS.out.at_ hh (by have := HN.out; omega)
      obtain ⟨q0, q1, q2, q3, q4, q5⟩ := HS.out.at_ a (by have := HN.out; omega)
      have HKS := Lib.hid (show d[hh]!.key.size ≤ maxLen ∧ d[a]!.key.size ≤ maxLen from ⟨HS.out.key _ (by have := HN.out; omega), HS.out.key _ (by have := HN.out; omega)⟩)
      obtain ⟨z, hz⟩ : ∃ z, z = cmpI (rk d[hh]!.key) (rk d[a]!.key) := ⟨_, rfl⟩
      have HZ := Lib.hid (show z < 0 ↔ rkE rk d[hh]! < rkE rk d[a]! from by rw [hz]; exact cmpI_lt _ _)
      have KC := Lib.hid (show ∀ wx, Below wr.heap.size wr wx → Calls Try.prog 82 #[.agg #[.string d[hh]!.key, .int .i64 d[hh]!.u.k, .int .i64 d[hh]!.u.n, .string d[hh]!.u.s, .slice d[hh]!.u.A d[hh]!.u.la d[hh]!.u.lc, .slice d[hh]!.u.F d[hh]!.u.lf d[hh]!.u.fc], .agg #[.string d[a]!.key, .int .i64 d[a]!.u.k, .int .i64 d[a]!.u.n, .string d[a]!.u.s, .slice d[a]!.u.A d[a]!.u.la d[a]!.u.lc, .slice d[a]!.u.F d[a]!.u.lf d[a]!.u.fc], .pointer (some ⟨Rv, 0, none⟩)] wx fun e w' => e = .returned (.int .i64 z) ∧ Below wx.heap.size wx w' from fun wx hb => by rw [hz]; exact hC wx (HS.out.go hb).kp _ _ _ _ HKS.out.1 HKS.out.2)
      generalize d[hh]!.key = k1 at p0 KC
      generalize d[hh]!.u = u1 at p1 p2 p3 p4 p5 KC
      generalize d[a]!.key = k2 at q0 KC
      generalize d[a]!.u = u2 at q1 q2 q3 q4 q5 KC
      have hb1 : (hh : Int) < (N : Int) := by omega
      have hb2 : (a : Int) < (N : Int) := by omega
      clear hz
      go_wp2_with fail
      go_still_tail 9, (by kernel_rfl)
      change wpList _ _ _ _ _ wr.drew
      have hbd : Below wr.heap.size wr wr.drew := (Below.refl _ _).drew
      generalize wr.drew = w2 at hbd ⊢
      have HBD := Lib.hid hbd
      clear hbd
      go_wp2_with fail
      refine (KC.out w2 HBD.out).mono ?_
      rintro e w3 ⟨rfl, hb4⟩
      have HS3 := Lib.hid (HS.out.go (HBD.out.trans (hb4.mono HBD.out.size)))
      clear hb4 KC p0 p1 p2 p3 p4 p5 q0 q1 q2 q3 q4 q5
      by_cases hzn : z < 0
      · have hzd : decide (z < 0) = true := decide_eq_true hzn
        have HF2 := Lib.hid (HF.out.yes hh1 hh2 (St.le_of_lt (HZ.out.1 hzn)))
        go_wp2_with fail
        exact ⟨⟨hh + 1, j, by go_num, rfl, by omega, by omega, hj, HS3.out, HF2.out⟩, by simp [intOf]; omega⟩
      · have hzd : decide (z < 0) = false := decide_eq_false hzn
        have HF2 := Lib.hid (HF.out.no hh1 hh2 (St.le_of_not (fun h => hzn (HZ.out.2 h)) (HP.out.old a hh (Nat.le_refl _) (by omega) (by omega) (by omega))))
        go_wp2_with fail
        exact ⟨⟨i, hh, rfl, rfl, hi, by omega, by omega, HS3.out, HF2.out⟩, by simp [intOf]; omega⟩
    · obtain rfl : i = j := by omega
      have ei : (i : Int) - 1 = ((i - 1 : Nat) : Int) := by omega
      obtain ⟨t, ht⟩ : ∃ t : Nat, t = i - 1 := ⟨_, rfl⟩
      rw [← ht] at ei
      have HT := Lib.hid ht
      have hta : a ≤ t := by omega
      have htN : t < N := by omega
      clear ht
      go_wp2_with fail
      go_loopw [13] (fun kv wr => ∃ (k : Nat) (dk : Array Eo), kv = .int .i64 k ∧ a ≤ k ∧ k ≤ t ∧ Sw w0 B dk wr ∧ St.Rot d dk a (a + 1) (k + 1) ∧ Go.Sort.PermIn a bb d dk) (fun kv _ => N - (intOf kv).toNat)
      case atStart => exact ⟨a, d, rfl, Nat.le_refl _, hta, HS.out, St.Rot.nil (.inr rfl) (by omega) (by omega), Go.Sort.permIn_refl _ _ _⟩
      case round =>
        obtain ⟨k, dk, rfl, hka, hkt, hS, hR, hQ⟩ := hrel
        have HS := Lib.hid hS
        have HR := Lib.hid hR
        have HQ := Lib.hid hQ
        have HSZ : Hid (N = dk.size) := Lib.hid (by rw [hR.1]; exact HN.out)
        clear hS hR hQ
        by_cases hkl : k < t
        · obtain ⟨q, hq⟩ : ∃ q : Nat, q = k + 1 := ⟨_, rfl⟩
          have e2 : (k : Int) + 1 = (q : Int) := by omega
          have hpN : (k : Int) < (N : Int) := by omega
          have hqN : (q : Int) < (N : Int) := by omega
          have HPQ := Lib.hid hq
          have hqt : q ≤ t := by omega
          have hkq : k < q := by omega
          clear hq
          obtain ⟨x0, x1, x2, x3, x4, x5⟩ := HS.out.at_ k (by have := HSZ.out; omega)
          obtain ⟨y0, y1, y2, y3, y4, y5⟩ := HS.out.at_ q (by have := HSZ.out; omega)
          obtain ⟨k1, hk1⟩ : ∃ kk, kk = dk[k]!.key := ⟨_, rfl⟩
          obtain ⟨u1, hu1⟩ : ∃ kk, kk = dk[k]!.u := ⟨_, rfl⟩
          obtain ⟨k2, hk2⟩ : ∃ kk, kk = dk[q]!.key := ⟨_, rfl⟩
          obtain ⟨u2, hu2⟩ : ∃ kk, kk = dk[q]!.u := ⟨_, rfl⟩
          rw [← hk1] at x0
          rw [← hu1] at x1 x2 x3 x4 x5
          rw [← hk2] at y0
          rw [← hu2] at y1 y2 y3 y4 y5
          have HE := Lib.hid (show k1 = dk[k]!.key ∧ u1 = dk[k]!.u ∧ k2 = dk[q]!.key ∧ u2 = dk[q]!.u from ⟨hk1, hu1, hk2, hu2⟩)
          clear hk1 hu1 hk2 hu2
          have hf := HS.out.frz
          go_wp2_with fail
          go_region
          have hs2 : Sw w0 B (Go.Sort.swp dk k q) ((((((((((((wr.setCell ⟨B, k * 6, none⟩ (.string k2)).setCell ⟨B, k * 6 + 1, none⟩ (.int .i64 u2.k)).setCell ⟨B, k * 6 + 2, none⟩ (.int .i64 u2.n)).setCell ⟨B, k * 6 + 3, none⟩ (.string u2.s)).setCell ⟨B, k * 6 + 4, none⟩ (.slice u2.A u2.la u2.lc)).setCell ⟨B, k * 6 + 5, none⟩ (.slice u2.F u2.lf u2.fc)).setCell ⟨B, q * 6, none⟩ (.string k1)).setCell ⟨B, q * 6 + 1, none⟩ (.int .i64 u1.k)).setCell ⟨B, q * 6 + 2, none⟩ (.int .i64 u1.n)).setCell ⟨B, q * 6 + 3, none⟩ (.string u1.s)).setCell ⟨B, q * 6 + 4, none⟩ (.slice u1.A u1.la u1.lc)).setCell ⟨B, q * 6 + 5, none⟩ (.slice u1.F u1.lf u1.fc)).drew := HS.out.swap (by have := HSZ.out; omega) (by have := HSZ.out; omega) (by omega) HE.out
          generalize ((((((((((((wr.setCell ⟨B, k * 6, none⟩ (.string k2)).setCell ⟨B, k * 6 + 1, none⟩ (.int .i64 u2.k)).setCell ⟨B, k * 6 + 2, none⟩ (.int .i64 u2.n)).setCell ⟨B, k * 6 + 3, none⟩ (.string u2.s)).setCell ⟨B, k * 6 + 4, none⟩ (.slice u2.A u2.la u2.lc)).setCell ⟨B, k * 6 + 5, none⟩ (.slice u2.F u2.lf u2.fc)).setCell ⟨B, q * 6, none⟩ (.string k1)).setCell ⟨B, q * 6 + 1, none⟩ (.int .i64 u1.k)).setCell ⟨B, q * 6 + 2, none⟩ (.int .i64 u1.n)).setCell ⟨B, q * 6 + 3, none⟩ (.string u1.s)).setCell ⟨B, q * 6 + 4, none⟩ (.slice u1.A u1.la u1.lc)).setCell ⟨B, q * 6 + 5, none⟩ (.slice u1.F u1.lf u1.fc)).drew = w2 at hs2 ⊢
          have HS2 := Lib.hid hs2
          clear hs2 hf x0 x1 x2 x3 x4 x5 y0 y1 y2 y3 y4 y5
          go_wp2_with fail
          refine ⟨⟨q, Go.Sort.swp dk k q, by go_num, by omega, hqt, HS2.out, ?_, ?_⟩, by simp [intOf]; omega⟩
          · have h8 := HR.out.up (by omega) (by have := HN.out; omega)
            rw [HPQ.out]
            simpa using h8
          · refine Go.Sort.permIn_trans _ _ _ _ _ HQ.out (Go.Sort.swp_permIn _ _ _ _ _ ?_ ?_ ?_ ?_ ?_)
            all_goals (have h9 := HSZ.out; have h10 := HT.out; omega)
        · obtain rfl : k = t := by omega
          have HFIN : Hid (St.Mrg (rkE rk) Eo.ix d dk a bb) := Lib.hid (by
            have h10 := HT.out
            have h8 := HR.out
            rw [show k + 1 = i by omega, ← HM.out] at h8
            refine St.Mrg.of_ins h8 HQ.out (Nat.le_refl _) (by omega) (by omega) (by omega) HP.out.s1 HP.out.s2 HP.out.old (fun h _ => by omega) (fun h _ => HF.out.2.2.2.1 (by omega)) (fun _ h => ?_) (fun h _ => by omega)
            rw [show m - 1 = a by have := HM.out; omega]
            exact HF.out.2.2.2.2 h)
          go_wp2_with fail
          refine bodyPost_ret (results_none rfl _ _ _) rfl ?_
          exact ⟨rfl, dk, HS.out, HFIN.out⟩
set_option maxHeartbeats 4000000 in
set_option maxRecDepth 100000 in
theorem merge_two (w0 : World) (B N c a m bb Rv : Nat) (rk : ByteArray → Int) (d : Array Eo) (w : World) (H : Sw w0 B d w) (hC : CmpOk w0 B Rv rk) (hP : Pre rk N d a m bb) (h1 : a + 1 < m) (h2 : bb = m + 1) :
    Calls Try.prog 123 #[.slice (some ⟨B, 0, none⟩) N c, .int .i64 a, .int .i64 m, .int .i64 bb, cmpV Rv] w fun e w' => e = .returned (.tuple #[]) ∧ ∃ d', Sw w0 B d' w' ∧ St.Mrg (rkE rk) Eo.ix d d' a bb := by
  have hma : ((m : Int) - (a : Int) == 1) = false := by simp; omega
  have hmb : ((bb : Int) - (m : Int) == 1) = true := by simp; omega
  have hmb2 : (bb : Int) - (m : Int) = 1 := by omega
  have HP := Lib.hid hP
  have HH := Lib.hid H
  have HN := Lib.hid hP.n
  have h3 := hP.bn
  have h4 := hP.nb
  have hmbb : m < bb := by omega
  have HM := Lib.hid h2
  clear h2 H hP
  go_enter Try.func123, Try.ntmps123
  go_wp2_with fail
  go_loopw [14, 15] (fun iv jv wr => ∃ i j : Nat, iv = .int .i64 i ∧ jv = .int .i64 j ∧ a ≤ i ∧ i ≤ j ∧ j ≤ m ∧ Sw w0 B d wr ∧ St.Fnd1 (rkE rk) Eo.ix d m a m i j) (fun iv jv _ => (intOf jv).toNat - (intOf iv).toNat)
  case atStart => exact ⟨a, m, rfl, rfl, Nat.le_refl _, by omega, Nat.le_refl _, HH.out, St.Fnd1.start (by omega)⟩
  case round =>
    obtain ⟨i, j, rfl, rfl, hi, hij, hj, hS, hF⟩ := hrel
    have HS := Lib.hid hS
    have HF := Lib.hid hF
    clear hS hF
    by_cases hlt : i < j
    · obtain ⟨hh, hhe⟩ : ∃ hh : Nat, hh = (i + j) / 2 := ⟨_, rfl⟩
      have hh1 : i ≤ hh := by omega
      have hh2 : hh < j := by omega
      have hdv : ((i : Int) + (j : Int)) / 2 = (hh : Int) := by omega
      clear hhe
      obtain ⟨p0, p1, p2, p3, p4, p5⟩ := HS.out.at_ m (by have := HN.out; omega)
      obtain ⟨q0, q1, q2, q3, q4, q5⟩ := HS.out.at_ hh (by have := HN.out; omega)
      have HKS := Lib.hid (show d[m]!.key.size ≤ maxLen ∧ d[hh]!.key.size ≤ maxLen from ⟨HS.out.key _ (by have := HN.out; omega), HS.out.key _ (by have := HN.out; omega)⟩)
      obtain ⟨z, hz⟩ : ∃ z, z = cmpI (rk d[m]!.key) (rk d[hh]!.key) := ⟨_, rfl⟩
      have HZ := Lib.hid (show z < 0 ↔ rkE rk d[m]! < rkE rk d[hh]! from by rw [hz]; exact cmpI_lt _ _)
      have KC := Lib.hid (show ∀ wx, Below wr.heap.size wr wx → Calls Try.prog 82 #[.agg #[.string d[m]!.key, .int .i64 d[m]!.u.k, .int .i64 d[m]!.u.n, .string d[m]!.u.s, .slice d[m]!.u.A d[m]!.u.la d[m]!.u.lc, .slice d[m]!.u.F d[m]!.u.lf d[m]!.u.fc], .agg #[.string d[hh]!.key, .int .i64 d[hh]!.u.k, .int .i64 d[hh]!.u.n, .string d[hh]!.u.s, .slice d[hh]!.u.A d[hh]!.u.la d[hh]!.u.lc, .slice d[hh]!.u.F d[hh]!.u.lf d[hh]!.u.fc], .pointer (some ⟨Rv, 0, none⟩)] wx fun e w' => e = .returned (.int .i64 z) ∧ Below wx.heap.size wx w' from fun wx hb => by rw [hz]; exact hC wx (HS.out.go hb).kp _ _ _ _ HKS.out.1 HKS.out.2)
      generalize d[m]!.key = k1 at p0 KC
      generalize d[m]!.u = u1 at p1 p2 p3 p4 p5 KC
      generalize d[hh]!.key = k2 at q0 KC
      generalize d[hh]!.u = u2 at q1 q2 q3 q4 q5 KC
      have hb1 : (m : Int) < (N : Int) := by omega
      have hb2 : (hh : Int) < (N : Int) := by omega
      clear hz
      go_wp2_with fail
      go_still_tail 9, (by kernel_rfl)
      change wpList _ _ _ _ _ wr.drew
      have hbd : Below wr.heap.size wr wr.drew := (Below.refl _ _).drew
      generalize wr.drew = w2 at hbd ⊢
      have HBD := Lib.hid hbd
      clear hbd
      go_wp2_with fail
      refine (KC.out w2 HBD.out).mono ?_
      rintro e w3 ⟨rfl, hb4⟩
      have HS3 := Lib.hid (HS.out.go (HBD.out.trans (hb4.mono HBD.out.size)))
      clear hb4 KC p0 p1 p2 p3 p4 p5 q0 q1 q2 q3 q4 q5
      by_cases hzn : z < 0
      · have hzd : decide (z < 0) = true := decide_eq_true hzn
        have HF2 := Lib.hid (HF.out.no hh1 hh2 (St.le_of_lt (HZ.out.1 hzn)))
        go_wp2_with fail
        exact ⟨⟨i, hh, rfl, rfl, hi, by omega, by omega, HS3.out, HF2.out⟩, by simp [intOf]; omega⟩
      · have hzd : decide (z < 0) = false := decide_eq_false hzn
        have HF2 := Lib.hid (HF.out.yes hh1 hh2 (St.le_of_not (fun h => hzn (HZ.out.2 h)) (HP.out.old hh m (by omega) (by omega) (Nat.le_refl _) (by omega))))
        go_wp2_with fail
        exact ⟨⟨hh + 1, j, by go_num, rfl, by omega, by omega, hj, HS3.out, HF2.out⟩, by simp [intOf]; omega⟩
    · obtain rfl : i = j := by omega
      have him : i ≤ m := by omega
      go_wp2_with fail
      go_loopw [17] (fun kv wr => ∃ (k : Nat) (dk : Array Eo), kv = .int .i64 k ∧ i ≤ k ∧ k ≤ m ∧ Sw w0 B dk wr ∧ St.Rot d dk k m (m + 1) ∧ Go.Sort.PermIn a bb d dk) (fun kv _ => (intOf kv).toNat)
      case atStart => exact ⟨m, d, rfl, him, Nat.le_refl _, HS.out, St.Rot.nil (.inl rfl) (by omega) (by omega), Go.Sort.permIn_refl _ _ _⟩
      case round =>
        obtain ⟨k, dk, rfl, hka, hkt, hS, hR, hQ⟩ := hrel
        have HS := Lib.hid hS
        have HR := Lib.hid hR
        have HQ := Lib.hid hQ
        have HSZ : Hid (N = dk.size) := Lib.hid (by rw [hR.1]; exact HN.out)
        clear hS hR hQ
        by_cases hkl : i < k
        · obtain ⟨q, hq⟩ : ∃ q : Nat, q = k - 1 := ⟨_, rfl⟩
          have e2 : (k : Int) - 1 = (q : Int) := by omega
          have hpN : (k : Int) < (N : Int) := by omega
          have hqN : (q : Int) < (N : Int) := by omega
          have HPQ := Lib.hid hq
          have hqt : i ≤ q := by omega
          have hkq : q < k := by omega
          clear hq
          obtain ⟨x0, x1, x2, x3, x4, x5⟩ := HS.out.at_ k (by have := HSZ.out; omega)
          obtain ⟨y0, y1, y2, y3, y4, y5⟩ := HS.out.at_ q (by have := HSZ.out; omega)
          obtain ⟨k1, hk1⟩ : ∃ kk, kk = dk[k]!.key := ⟨_, rfl⟩
          obtain ⟨u1, hu1⟩ : ∃ kk, kk = dk[k]!.u := ⟨_, rfl⟩
          obtain ⟨k2, hk2⟩ : ∃ kk, kk = dk[q]!.key := ⟨_, rfl⟩
          obtain ⟨u2, hu2⟩ : ∃ kk, kk = dk[q]!.u := ⟨_, rfl⟩
          rw [← hk1] at x0
          rw [← hu1] at x1 x2 x3 x4 x5
          rw [← hk2] at y0
          rw [← hu2] at y1 y2 y3 y4 y5
          have HE := Lib.hid (show k1 = dk[k]!.key ∧ u1 = dk[k]!.u ∧ k2 = dk[q]!.key ∧ u2 = dk[q]!.u from ⟨hk1, hu1, hk2, hu2⟩)
          clear hk1 hu1 hk2 hu2
          have hf := HS.out.frz
          go_wp2_with fail
          go_region
          have hs2 : Sw w0 B (Go.Sort.swp dk k q) ((((((((((((wr.setCell ⟨B, k * 6, none⟩ (.string k2)).setCell ⟨B, k * 6 + 1, none⟩ (.int .i64 u2.k)).setCell ⟨B, k * 6 + 2, none⟩ (.int .i64 u2.n)).setCell ⟨B, k * 6 + 3, none⟩ (.string u2.s)).setCell ⟨B, k * 6 + 4, none⟩ (.slice u2.A u2.la u2.lc)).setCell ⟨B, k * 6 + 5, none⟩ (.slice u2.F u2.lf u2.fc)).setCell ⟨B, q * 6, none⟩ (.string k1)).setCell ⟨B, q * 6 + 1, none⟩ (.int .i64 u1.k)).setCell ⟨B, q * 6 + 2, none⟩ (.int .i64 u1.n)).setCell ⟨B, q * 6 + 3, none⟩ (.string u1.s)).setCell ⟨B, q * 6 + 4, none⟩ (.slice u1.A u1.la u1.lc)).setCell ⟨B, q * 6 + 5, none⟩ (.slice u1.F u1.lf u1.fc)).drew := HS.out.swap (by have := HSZ.out; omega) (by have := HSZ.out; omega) (by omega) HE.out
          generalize ((((((((((((wr.setCell ⟨B, k * 6, none⟩ (.string k2)).setCell ⟨B, k * 6 + 1, none⟩ (.int .i64 u2.k)).setCell ⟨B, k * 6 + 2, none⟩ (.int .i64 u2.n)).setCell ⟨B, k * 6 + 3, none⟩ (.string u2.s)).setCell ⟨B, k * 6 + 4, none⟩ (.slice u2.A u2.la u2.lc)).setCell ⟨B, k * 6 + 5, none⟩ (.slice u2.F u2.lf u2.fc)).setCell ⟨B, q * 6, none⟩ (.string k1)).setCell ⟨B, q * 6 + 1, none⟩ (.int .i64 u1.k)).setCell ⟨B, q * 6 + 2, none⟩ (.int .i64 u1.n)).setCell ⟨B, q * 6 + 3, none⟩ (.string u1.s)).setCell ⟨B, q * 6 + 4, none⟩ (.slice u1.A u1.la u1.lc)).setCell ⟨B, q * 6 + 5, none⟩ (.slice u1.F u1.lf u1.fc)).drew = w2 at hs2 ⊢
          have HS2 := Lib.hid hs2
          clear hs2 hf x0 x1 x2 x3 x4 x5 y0 y1 y2 y3 y4 y5
          go_wp2_with fail
          refine ⟨⟨q, Go.Sort.swp dk k q, by go_num, hqt, by omega, HS2.out, ?_, ?_⟩, by simp [intOf]; omega⟩
          · rw [HPQ.out]
            exact HR.out.down (by omega) (by omega) (by have := HN.out; omega)
          · refine Go.Sort.permIn_trans _ _ _ _ _ HQ.out (Go.Sort.swp_permIn _ _ _ _ _ ?_ ?_ ?_ ?_ ?_)
            all_goals (have h9 := HSZ.out; omega)
        · obtain rfl : k = i := by omega
          have HFIN : Hid (St.Mrg (rkE rk) Eo.ix d dk a bb) := Lib.hid (by
            have h8 := HR.out
            refine St.Mrg.of_ins h8 HQ.out hi hkt (by omega) (by omega) HP.out.s1 HP.out.s2 HP.out.old (fun _ h => by omega) (fun _ h => ?_) (fun _ h => by omega) (fun h _ => HF.out.2.2.2.1 h)
            exact HF.out.2.2.2.2 h)
          go_wp2_with fail
          refine bodyPost_ret (results_none rfl _ _ _) rfl ?_
          exact ⟨rfl, dk, HS.out, HFIN.out⟩
end Go.Proofs.Ytmdlcalnncncjaa
