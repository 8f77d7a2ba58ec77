/- symMerge of pairs, the longer run last. -/
import Derived.Test.YtmdlcalnncncjaaTStC
import Derived.Deep.CutRange
set_option linter.unusedVariables false
set_option linter.unusedSimpArgs false
namespace Go.Proofs.Ytmdlcalnncncjaa
open Go.RowKit
set_option maxHeartbeats 16000000 in
set_option maxRecDepth 100000 in
theorem merge_lo (dd : Nat) (IH0 : ∀ (w0 : World) (B N c a m bb Rv : Nat) (rk : ByteArray → Int) (d : Array Eo) (w : World), Sw w0 B d w → CmpOk w0 B Rv rk → Pre rk N d a m bb → bb - a ≤ dd → Calls Try.prog 123 #[.slice (some ⟨B, 0, none⟩) N c, .int .i64 a, .int .i64 m, .int .i64 bb, cmpV Rv] w fun e w' => e = .returned (.tuple #[]) ∧ ∃ d', Sw w0 B d' w' ∧ St.Mrg (rkE rk) Eo.ix d d' a bb) (w0 : World) (B N c a m bb Rv : Nat) (rk : ByteArray → Int) (d : Array Eo) (w : World) (H : Sw w0 B d w) (hC : CmpOk w0 B Rv rk) (hP : Pre rk N d a m bb) (hd : bb - a ≤ dd + 1) (ha : ¬ m = a + 1) (hb : ¬ bb = m + 1) (hgt : ¬ (a + bb) / 2 < m) : Calls Try.prog 123 #[.slice (some ⟨B, 0, none⟩) N c, .int .i64 a, .int .i64 m, .int .i64 bb, cmpV Rv] w fun e w' => e = .returned (.tuple #[]) ∧ ∃ d', Sw w0 B d' w' ∧ St.Mrg (rkE rk) Eo.ix d d' a bb := by
  have hma : ((m : Int) - (a : Int) == 1) = false := by simp; omega
  have hmb : ((bb : Int) - (m : Int) == 1) = false := by simp; omega
  have h1 := hP.am
  have h2 := hP.mb
  have h3 := hP.bn
  have h4 := hP.nb
  have IH := Lib.hid IH0
  have HP := Lib.hid hP
  have HH := Lib.hid H
  have HN := Lib.hid hP.n
  obtain ⟨mid, hmid⟩ : ∃ mid : Nat, mid = (a + bb) / 2 := ⟨_, rfl⟩
  have hm1 : a + 2 ≤ mid := by omega
  have hm2 : mid + 2 ≤ bb := by omega
  have hmv : ((a : Int) + (bb : Int)) / 2 = (mid : Int) := by omega
  have hm3 : 2 * mid ≤ a + bb := by omega
  have hm4 : a + bb ≤ 2 * mid + 1 := by omega
  rw [← hmid] at hgt
  obtain ⟨N', hN'⟩ : ∃ N' : Nat, N' = mid + m := ⟨_, rfl⟩
  obtain ⟨p, hp⟩ : ∃ p : Nat, p = mid + m - 1 := ⟨_, rfl⟩
  have hNv : (mid : Int) + (m : Int) = (N' : Int) := by omega
  have hpv : (N' : Int) - 1 = (p : Int) := by omega
  clear IH0 H hP hmid
  have HE := Lib.hid (show N' = mid + m ∧ p = mid + m - 1 from ⟨hN', hp⟩)
  clear hN' hp ha hb
  go_enter Try.func123, Try.ntmps123
  go_wp2_with fail
  go_loopw [20, 21] (fun sv rv wr => ∃ st r : Nat, sv = .int .i64 st ∧ rv = .int .i64 r ∧ a ≤ st ∧ st ≤ r ∧ r ≤ m ∧ Sw w0 B d wr ∧ St.Fnd (rkE rk) Eo.ix d a m p st r) (fun sv rv _ => (intOf rv).toNat - (intOf sv).toNat)
  case atStart => exact ⟨a, m, rfl, rfl, Nat.le_refl _, by omega, Nat.le_refl _, HH.out, St.Fnd.start (by omega)⟩
  case round =>
    obtain ⟨st, r, rfl, rfl, hi, hij, hj, hS, hF⟩ := hrel
    have HS := Lib.hid hS
    have HF := Lib.hid hF
    clear hS hF
    by_cases hlt : st < r
    · obtain ⟨hh, hhe⟩ : ∃ hh : Nat, hh = (st + r) / 2 := ⟨_, rfl⟩
      have hh1 : st ≤ hh := by omega
      have hh2 : hh < r := by omega
      have hdv : ((st : Int) + (r : Int)) / 2 = (hh : Int) := by omega
      obtain ⟨ee, hee⟩ : ∃ ee : Nat, ee = p - hh := ⟨_, rfl⟩
      have hel : ee < bb := by have := HE.out; omega
      have heg : m ≤ ee := by have := HE.out; omega
      have hhm : hh < m := by omega
      have hha : a ≤ hh := by omega
      have heu : (p : Int) - (hh : Int) = (ee : Int) := by have := HE.out; omega
      have hwe : IntKind.i64.wrap (ee : Int) = (ee : Int) := by rw [IntKind.wrap_i64]; omega
      have HEE := Lib.hid hee
      clear hhe hee
      obtain ⟨p0, p1, p2, p3, p4, p5⟩ := HS.out.at_ ee (by have := HN.out; omega)
      obtain ⟨q0, q1, q2, q3, q4, q5⟩ := HS.out.at_ hh (by have := HN.out; omega)
      have HKS := Lib.hid (show d[ee]!.key.size ≤ maxLen ∧ d[hh]!.key.size ≤ maxLen from ⟨HS.out.key _ (by have := HN.out; omega), HS.out.key _ (by have := HN.out; omega)⟩)
      obtain ⟨z, hz⟩ : ∃ z, z = cmpI (rk d[ee]!.key) (rk d[hh]!.key) := ⟨_, rfl⟩
      have HZ := Lib.hid (show z < 0 ↔ rkE rk d[ee]! < rkE rk d[hh]! from by rw [hz]; exact cmpI_lt _ _)
      have KC := Lib.hid (show ∀ wx, Below wr.heap.size wr wx → Calls Try.prog 82 #[.agg #[.string d[ee]!.key, .int .i64 d[ee]!.u.k, .int .i64 d[ee]!.u.n, .string d[ee]!.u.s, .slice d[ee]!.u.A d[ee]!.u.la d[ee]!.u.lc, .slice d[ee]!.u.F d[ee]!.u.lf d[ee]!.u.fc], .agg #[.string d[hh]!.key, .int .i64 d[hh]!.u.k, .int .i64 d[hh]!.u.n, .string d[hh]!.u.s, .slice d[hh]!.u.A d[hh]!.u.la d[hh]!.u.lc, .slice d[hh]!.u.F d[hh]!.u.lf d[hh]!.u.fc], .pointer (some ⟨Rv, 0, none⟩)] wx fun e w' => e = .returned (.int .i64 z) ∧ Below wx.heap.size wx w' from fun wx hb => by rw [hz]; exact hC wx (HS.out.go hb).kp _ _ _ _ HKS.out.1 HKS.out.2)
      generalize d[ee]!.key = k1 at p0 KC
      generalize d[ee]!.u = u1 at p1 p2 p3 p4 p5 KC
      generalize d[hh]!.key = k2 at q0 KC
      generalize d[hh]!.u = u2 at q1 q2 q3 q4 q5 KC
      have hb1 : (ee : Int) < (N : Int) := by omega
      have hb2 : (hh : Int) < (N : Int) := by omega
      clear hz
      go_wp2_with fail
      go_still_tail 11, (by kernel_rfl)
      change wpList _ _ _ _ _ wr.drew
      have hbd : Below wr.heap.size wr wr.drew := (Below.refl _ _).drew
      generalize wr.drew = w2 at hbd ⊢
      have HBD := Lib.hid hbd
      clear hbd
      go_wp2_with fail
      refine (KC.out w2 HBD.out).mono ?_
      rintro e w3 ⟨rfl, hb4⟩
      have HS3 := Lib.hid (HS.out.go (HBD.out.trans (hb4.mono HBD.out.size)))
      clear hb4 KC p0 p1 p2 p3 p4 p5 q0 q1 q2 q3 q4 q5
      by_cases hzn : z < 0
      · have hzd : decide (z < 0) = true := decide_eq_true hzn
        have HF2 := Lib.hid (HF.out.no hh1 hh2 (by rw [← HEE.out]; exact St.le_of_lt (HZ.out.1 hzn)))
        go_wp2_with fail
        exact ⟨⟨st, hh, rfl, rfl, hi, by omega, by omega, HS3.out, HF2.out⟩, by simp [intOf]; omega⟩
      · have hzd : decide (z < 0) = false := decide_eq_false hzn
        have HF2 := Lib.hid (HF.out.yes hh1 hh2 (by rw [← HEE.out]; exact St.le_of_not (fun h => hzn (HZ.out.2 h)) (HP.out.old hh ee hha hhm heg hel)))
        go_wp2_with fail
        exact ⟨⟨hh + 1, r, by go_num, rfl, by omega, by omega, hj, HS3.out, HF2.out⟩, by simp [intOf]; omega⟩
    · obtain rfl : st = r := by omega
      obtain ⟨en, hen⟩ : ∃ en : Nat, en = mid + m - st := ⟨_, rfl⟩
      have henv : (N' : Int) - (st : Int) = (en : Int) := by have := HE.out; omega
      have hsm : st ≤ m := by omega
      have hsd : st ≤ mid := by omega
      have hme : m ≤ en := by omega
      have heb : en ≤ bb := by have := HE.out; omega
      have has : a ≤ st := by omega
      have hke : mid = st + (en - m) := by omega
      have HX : Hid ((a < st → en < bb → St.le (rkE rk) Eo.ix d[st - 1]! d[en]!) ∧ (m < en → st < m → St.le (rkE rk) Eo.ix d[en - 1]! d[st]!)) := Lib.hid (by
        have h8 := HE.out
        refine ⟨fun h1 h2 => ?_, fun h1 h2 => ?_⟩
        · have h9 := HF.out.2.2.2.1 (by omega)
          rwa [show p - (st - 1) = en by omega] at h9
        · have h9 := HF.out.2.2.2.2 (by omega)
          rwa [show p - st = en - 1 by omega] at h9)
      have HKE := Lib.hid hke
      clear hen hke
      go_upto_region 39 with fail
      go_cut [185] from 178 to 185 (fun v wc => v = .bool (decide (st < m ∧ m < en)) ∧ wr = wc)
      case first =>
        by_cases hA1 : st < m
        · by_cases hA2 : m < en
          · go_wp2_with fail
            go_meet
            exact ⟨by rw [decide_eq_true (show st < m ∧ m < en from ⟨hA1, hA2⟩)], rfl⟩
          · go_wp2_with fail
            go_meet
            exact ⟨by rw [decide_eq_false (show ¬ (st < m ∧ m < en) from fun h => hA2 h.2)], rfl⟩
        · go_wp2_with fail
          go_meet
          exact ⟨by rw [decide_eq_false (show ¬ (st < m ∧ m < en) from fun h => hA1 h.1)], rfl⟩
      case rest =>
        obtain ⟨rfl, rfl⟩ := hcut
        go_upto_if 185 with fail
        go_cut [] from 185 to 191 (fun wc => ∃ d1, Sw w0 B d1 wc ∧ St.Rot d d1 st m en ∧ Go.Sort.PermIn a bb d d1)
        case first =>
          by_cases hA : st < m ∧ m < en
          · rw [decide_eq_true hA]
            have K := Lib.hid (rotate_any w0 B N c st m en (cmpV Rv) d wr HS.out HN.out h4 hA.1 hA.2 (by omega))
            go_wp2_with fail
            refine K.out.mono ?_
            rintro e w4 ⟨rfl, d1, hs1, hr1, hp1⟩
            have HS1 := Lib.hid hs1
            have HR1 := Lib.hid hr1
            have HQ1 := Lib.hid (Go.Sort.permIn_mono _ _ _ _ a bb has heb (by have := HN.out; omega) hp1)
            clear hs1 hr1 hp1 K
            go_wp2_with fail
            go_meet
            exact ⟨d1, HS1.out, HR1.out, HQ1.out⟩
          · rw [decide_eq_false hA]
            go_wp2_with fail
            go_meet
            exact ⟨d, HS.out, St.Rot.nil (by omega) hsm hme, Go.Sort.permIn_refl _ _ _⟩
        case rest =>
        obtain ⟨d1, hs1, hr1, hp1⟩ := hcut
        have HS1 := Lib.hid hs1
        have HR1 := Lib.hid hr1
        have HQ1 := Lib.hid hp1
        have HN1 : Hid (N = d1.size) := Lib.hid (by rw [hr1.1]; exact HN.out)
        have HU : Hid (St.Srt (rkE rk) Eo.ix d1 a st ∧ St.Srt (rkE rk) Eo.ix d1 st mid ∧ St.Srt (rkE rk) Eo.ix d1 mid en ∧ St.Srt (rkE rk) Eo.ix d1 en bb ∧ St.Old Eo.ix d1 a st mid ∧ St.Old Eo.ix d1 mid en bb) := Lib.hid (by have h8 := hr1.runs has hsm hme heb HP.out.s1 HP.out.s2 HP.out.old; rwa [← HKE.out] at h8)
        have hde : mid ≤ en := by have := HKE.out; omega
        clear hs1 hr1 hp1
        generalize wc = wr at HS1 ⊢
        go_upto_region 41 with fail
        go_cut [199] from 192 to 199 (fun v wc => v = .bool (decide (a < st ∧ st < mid)) ∧ wr = wc)
        case first =>
          by_cases hA1 : a < st
          · by_cases hA2 : st < mid
            · go_wp2_with fail
              go_meet
              exact ⟨by rw [decide_eq_true (show a < st ∧ st < mid from ⟨hA1, hA2⟩)], rfl⟩
            · go_wp2_with fail
              go_meet
              exact ⟨by rw [decide_eq_false (show ¬ (a < st ∧ st < mid) from fun h => hA2 h.2)], rfl⟩
          · go_wp2_with fail
            go_meet
            exact ⟨by rw [decide_eq_false (show ¬ (a < st ∧ st < mid) from fun h => hA1 h.1)], rfl⟩
        case rest =>
          obtain ⟨rfl, rfl⟩ := hcut
          go_upto_if 199 with fail
          go_cut [] from 199 to 205 (fun wc => ∃ d2, Sw w0 B d2 wc ∧ St.Mrg (rkE rk) Eo.ix d1 d2 a mid)
          case first =>
            by_cases hA : a < st ∧ st < mid
            · rw [decide_eq_true hA]
              have K := Lib.hid (IH.out w0 B N c a st mid Rv rk d1 wr HS1.out hC ⟨HN1.out, hA.1, hA.2, by omega, h4, HU.out.1, HU.out.2.1, HU.out.2.2.2.2.1⟩ (by omega))
              go_wp2_with fail
              refine K.out.mono ?_
              rintro e w4 ⟨rfl, d2, hs2, hm2⟩
              have HS2 := Lib.hid hs2
              have HM2 := Lib.hid hm2
              clear hs2 hm2 K
              go_wp2_with fail
              go_meet
              exact ⟨d2, HS2.out, HM2.out⟩
            · rw [decide_eq_false hA]
              have HM2 : Hid (St.Mrg (rkE rk) Eo.ix d1 d1 a mid) := Lib.hid ⟨Go.Sort.permIn_refl _ _ _, by
                by_cases hx : a < st
                · have hy : st = mid := by omega
                  rw [← hy]; exact HU.out.1
                · have hy : a = st := by omega
                  rw [hy]; exact HU.out.2.1⟩
              go_wp2_with fail
              go_meet
              exact ⟨d1, HS1.out, HM2.out⟩
          case rest =>
          obtain ⟨d2, hs2, hm2⟩ := hcut
          have HS2 := Lib.hid hs2
          have HM2 := Lib.hid hm2
          have HN2 : Hid (N = d2.size) := Lib.hid (by rw [hm2.1.1]; exact HN1.out)
          have HV : Hid (St.Srt (rkE rk) Eo.ix d2 mid en ∧ St.Srt (rkE rk) Eo.ix d2 en bb ∧ St.Old Eo.ix d2 mid en bb) := Lib.hid ⟨HU.out.2.2.1.congr fun i x _ => hm2.1.2.1 i (.inr x), HU.out.2.2.2.1.congr fun i x _ => hm2.1.2.1 i (.inr (by omega)), fun i j x y z u => by rw [hm2.1.2.1 i (.inr x), hm2.1.2.1 j (.inr (by omega))]; exact HU.out.2.2.2.2.2 i j x y z u⟩
          clear hs2 hm2
          generalize wc = wr at HS2 ⊢
          go_upto_region 43 with fail
          go_cut [213] from 206 to 213 (fun v wc => v = .bool (decide (mid < en ∧ en < bb)) ∧ wr = wc)
          case first =>
            by_cases hA1 : mid < en
            · by_cases hA2 : en < bb
              · go_wp2_with fail
                go_meet
                exact ⟨by rw [decide_eq_true (show mid < en ∧ en < bb from ⟨hA1, hA2⟩)], rfl⟩
              · go_wp2_with fail
                go_meet
                exact ⟨by rw [decide_eq_false (show ¬ (mid < en ∧ en < bb) from fun h => hA2 h.2)], rfl⟩
            · go_wp2_with fail
              go_meet
              exact ⟨by rw [decide_eq_false (show ¬ (mid < en ∧ en < bb) from fun h => hA1 h.1)], rfl⟩
          case rest =>
            obtain ⟨rfl, rfl⟩ := hcut
            go_upto_if 213 with fail
            by_cases hA : mid < en ∧ en < bb
            · rw [decide_eq_true hA]
              have K := Lib.hid (IH.out w0 B N c mid en bb Rv rk d2 wr HS2.out hC ⟨HN2.out, hA.1, hA.2, h3, h4, HV.out.1, HV.out.2.1, HV.out.2.2⟩ (by omega))
              go_wp2_with fail
              refine K.out.mono ?_
              rintro e w4 ⟨rfl, d3, hs3, hm3⟩
              have HS3 := Lib.hid hs3
              have HF3 : Hid (St.Mrg (rkE rk) Eo.ix d d3 a bb) := Lib.hid (St.Mrg.halves HR1.out HKE.out HQ1.out has hsm hme heb (by have := HN.out; omega) HP.out.s1 HP.out.s2 HX.out.1 HX.out.2 HM2.out hm3)
              clear hs3 hm3 K
              go_wp2_with fail
              go_end0
              exact ⟨rfl, d3, HS3.out, HF3.out⟩
            · rw [decide_eq_false hA]
              have HF3 : Hid (St.Mrg (rkE rk) Eo.ix d d2 a bb) := Lib.hid (St.Mrg.halves HR1.out HKE.out HQ1.out has hsm hme heb (by have := HN.out; omega) HP.out.s1 HP.out.s2 HX.out.1 HX.out.2 HM2.out ⟨Go.Sort.permIn_refl _ _ _, by
                by_cases hx : mid < en
                · have hy : en = bb := by omega
                  rw [← hy]; exact HV.out.1
                · have hy : mid = en := by omega
                  rw [hy]; exact HV.out.2.1⟩)
              go_wp2_with fail
              go_end0
              exact ⟨rfl, d2, HS2.out, HF3.out⟩
end Go.Proofs.Ytmdlcalnncncjaa
