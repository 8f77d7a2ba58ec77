/- The insertion sort of pairs: stable. -/
import Derived.Test.YtmdlcalnncncjaaTStC
set_option linter.unusedVariables false
set_option linter.unusedSimpArgs false
namespace Go.Proofs.Ytmdlcalnncncjaa
open Go.RowKit
set_option maxHeartbeats 4000000 in
set_option maxRecDepth 100000 in
theorem ins_any (w0 : World) (B N c a b Rv : Nat) (rk : ByteArray → Int) (d : Array Eo) (w : World) (H : Sw w0 B d w) (hC : CmpOk w0 B Rv rk) (hN : N = d.size) (h4 : N ≤ 1000) (hab : a ≤ b) (hbN : b ≤ N) (hup : ∀ i j, a ≤ i → i < j → j < b → d[i]!.ix < d[j]!.ix) :
    Calls Try.prog 122 #[.slice (some ⟨B, 0, none⟩) N c, .int .i64 a, .int .i64 b, cmpV Rv] w fun e w' => e = .returned (.tuple #[]) ∧ ∃ d', Sw w0 B d' w' ∧ St.Mrg (rkE rk) Eo.ix d d' a b := by
  have HN0 := Lib.hid hN
  have HH := Lib.hid H
  have HUP := Lib.hid hup
  clear hN H hup
  by_cases hlen : b ≤ a + 1
  · have HF : Hid (St.Mrg (rkE rk) Eo.ix d d a b) := Lib.hid ⟨Go.Sort.permIn_refl _ _ _, St.Srt.one hlen⟩
    go_enter Try.func122, Try.ntmps122
    go_wp2_with fail
    go_loopw [8] (fun iv wr => iv = .int .i64 (a + 1 : Nat) ∧ w = wr) (fun _ _ => 0)
    case atStart => exact ⟨by go_num, rfl⟩
    case round =>
      obtain ⟨rfl, rfl⟩ := hrel
      go_wp2_with fail
      go_end0
      exact ⟨rfl, d, HH.out, HF.out⟩
  · go_enter Try.func122, Try.ntmps122
    go_wp2_with fail
    go_loopw [8] (fun iv wr => ∃ (i : Nat) (dk : Array Eo), iv = .int .i64 i ∧ a + 1 ≤ i ∧ i ≤ b ∧ Sw w0 B dk wr ∧ St.Mrg (rkE rk) Eo.ix d dk a i) (fun iv _ => b - (intOf iv).toNat)
    case atStart => exact ⟨a + 1, d, by go_num, Nat.le_refl _, by omega, HH.out, Go.Sort.permIn_refl _ _ _, St.Srt.one (Nat.le_refl _)⟩
    case round =>
      obtain ⟨i, dk, rfl, hi, hib, hS, hM⟩ := hrel
      have HS := Lib.hid hS
      have HM := Lib.hid hM
      have HN : Hid (N = dk.size) := Lib.hid (by rw [hM.1.1]; exact HN0.out)
      clear hS hM
      by_cases hlt : i < b
      · have HOLD : Hid (St.Old Eo.ix dk a i (i + 1)) := Lib.hid (fun x y x1 x2 y1 y2 => by
          obtain rfl : y = i := by omega
          rw [HM.out.1.2.1 y (.inr (Nat.le_refl _))]
          exact Go.Sort.permIn_all d dk a y (fun v => v.ix < d[y]!.ix) (by have := HN0.out; omega) HM.out.1 (fun q q1 q2 => HUP.out q y q1 q2 hlt) x x1 x2)
        go_wp2_with fail
        go_loopw [9] (fun jv wt => ∃ (j : Nat) (dj : Array Eo), jv = .int .i64 j ∧ a ≤ j ∧ j ≤ i ∧ Sw w0 B dj wt ∧ St.Rot dk dj j i (i + 1) ∧ Go.Sort.PermIn a (i + 1) dk dj ∧ (j < i → St.le (rkE rk) Eo.ix dk[i]! dk[j]!)) (fun jv _ => (intOf jv).toNat)
        case atStart => exact ⟨i, dk, rfl, by omega, Nat.le_refl _, HS.out, St.Rot.nil (.inl rfl) (Nat.le_refl _) (by omega), Go.Sort.permIn_refl _ _ _, fun h => absurd h (Nat.lt_irrefl _)⟩
        case round =>
          clear HS
          obtain ⟨j, dj, rfl, hja, hji, hS, hR, hQ, hL⟩ := hrel
          have HS := Lib.hid hS
          have HR := Lib.hid hR
          have HQ := Lib.hid hQ
          have HL := Lib.hid hL
          have HSZ : Hid (N = dj.size) := Lib.hid (by rw [hR.1]; exact HN.out)
          have HFIN := Lib.hid (show (a < j → St.le (rkE rk) Eo.ix dk[j - 1]! dk[i]!) → St.Mrg (rkE rk) Eo.ix d dj a (i + 1) from fun hy => by
            have h8 := St.Mrg.of_ins hR hQ hja hji (by omega) (Nat.le_refl _) HM.out.2 (St.Srt.one (Nat.le_refl _)) HOLD.out (fun _ h => absurd h (Nat.lt_irrefl _)) (fun _ h => hL h) (fun _ h => absurd h (Nat.lt_irrefl _)) (fun h _ => hy h)
            exact ⟨Go.Sort.permIn_trans _ _ _ _ _ (Go.Sort.permIn_mono _ _ _ _ _ _ (Nat.le_refl _) (by omega) (by have := HN0.out; omega) HM.out.1) h8.1, h8.2⟩)
          have HEJ : Hid (dj[j]! = dk[i]!) := Lib.hid (by rw [hR.2 j, St.src_l (Nat.le_refl _) (by omega) hji (by omega), Nat.sub_self, Nat.add_zero])
          clear hS hR hQ hL
          by_cases hja2 : a < j
          · obtain ⟨q, hq⟩ : ∃ q : Nat, q = j - 1 := ⟨_, rfl⟩
            have hqj : (j : Int) - 1 = (q : Int) := by omega
            have hqlt : q < j := by omega
            have hqa : a ≤ q := by omega
            have hwq : IntKind.i64.wrap (q : Int) = (q : Int) := by rw [IntKind.wrap_i64]; omega
            have HQE := Lib.hid hq
            have HEQ : Hid (dj[q]! = dk[q]!) := Lib.hid (by rw [HR.out.2 q, St.src_out (.inl hqlt)])
            have hj3 : (a : Int) < (j : Int) := by omega
            clear hq
            obtain ⟨p0, p1, p2, p3, p4, p5⟩ := HS.out.at_ j (by have := HSZ.out; omega)
            obtain ⟨q0, q1, q2, q3, q4, q5⟩ := HS.out.at_ q (by have := HSZ.out; omega)
            have HKS := Lib.hid (show dj[j]!.key.size ≤ maxLen ∧ dj[q]!.key.size ≤ maxLen from ⟨HS.out.key _ (by have := HSZ.out; omega), HS.out.key _ (by have := HSZ.out; omega)⟩)
            obtain ⟨z, hz⟩ : ∃ z, z = cmpI (rk dj[j]!.key) (rk dj[q]!.key) := ⟨_, rfl⟩
            have HZ := Lib.hid (show z < 0 ↔ rkE rk dj[j]! < rkE rk dj[q]! from by rw [hz]; exact cmpI_lt _ _)
            have KC := Lib.hid (show ∀ wx, Below wr.heap.size wr wx → Calls Try.prog 82 #[.agg #[.string dj[j]!.key, .int .i64 dj[j]!.u.k, .int .i64 dj[j]!.u.n, .string dj[j]!.u.s, .slice dj[j]!.u.A dj[j]!.u.la dj[j]!.u.lc, .slice dj[j]!.u.F dj[j]!.u.lf dj[j]!.u.fc], .agg #[.string dj[q]!.key, .int .i64 dj[q]!.u.k, .int .i64 dj[q]!.u.n, .string dj[q]!.u.s, .slice dj[q]!.u.A dj[q]!.u.la dj[q]!.u.lc, .slice dj[q]!.u.F dj[q]!.u.lf dj[q]!.u.fc], .pointer (some ⟨Rv, 0, none⟩)] wx fun e w' => e = .returned (.int .i64 z) ∧ Below wx.heap.size wx w' from fun wx hb => by rw [hz]; exact hC wx (HS.out.go hb).kp _ _ _ _ HKS.out.1 HKS.out.2)
            generalize dj[j]!.key = k1 at p0 KC
            generalize dj[j]!.u = u1 at p1 p2 p3 p4 p5 KC
            generalize dj[q]!.key = k2 at q0 KC
            generalize dj[q]!.u = u2 at q1 q2 q3 q4 q5 KC
            have hb1 : (j : Int) < (N : Int) := by omega
            have hb2 : (q : Int) < (N : Int) := by omega
            clear hz
            go_wp2_with fail
            go_still_tail 14, (by kernel_rfl)
            change wpList _ _ _ _ _ wr.drew
            have hbd : Below wr.heap.size wr wr.drew := (Below.refl _ _).drew
            generalize wr.drew = w2 at hbd ⊢
            have HBD := Lib.hid hbd
            clear hbd
            go_wp2_with fail
            refine (KC.out w2 HBD.out).mono ?_
            rintro e w3 ⟨rfl, hb4⟩
            have HS3 := Lib.hid (HS.out.go (HBD.out.trans (hb4.mono HBD.out.size)))
            clear hb4 KC p0 p1 p2 p3 p4 p5 q0 q1 q2 q3 q4 q5
            by_cases hzn : z < 0
            · have hzd : decide (z < 0) = true := decide_eq_true hzn
              have HLE : Hid (St.le (rkE rk) Eo.ix dk[i]! dk[q]!) := Lib.hid (by rw [← HEJ.out, ← HEQ.out]; exact St.le_of_lt (HZ.out.1 hzn))
              generalize w3 = wr at HS3 ⊢
              have HS := HS3
              obtain ⟨x0, x1, x2, x3, x4, x5⟩ := HS.out.at_ j (by have := HSZ.out; omega)
              obtain ⟨y0, y1, y2, y3, y4, y5⟩ := HS.out.at_ q (by have := HSZ.out; omega)
              obtain ⟨k1, hk1⟩ : ∃ kk, kk = dj[j]!.key := ⟨_, rfl⟩
              obtain ⟨u1, hu1⟩ : ∃ kk, kk = dj[j]!.u := ⟨_, rfl⟩
              obtain ⟨k2, hk2⟩ : ∃ kk, kk = dj[q]!.key := ⟨_, rfl⟩
              obtain ⟨u2, hu2⟩ : ∃ kk, kk = dj[q]!.u := ⟨_, rfl⟩
              rw [← hk1] at x0
              rw [← hu1] at x1 x2 x3 x4 x5
              rw [← hk2] at y0
              rw [← hu2] at y1 y2 y3 y4 y5
              have HE := Lib.hid (show k1 = dj[j]!.key ∧ u1 = dj[j]!.u ∧ k2 = dj[q]!.key ∧ u2 = dj[q]!.u from ⟨hk1, hu1, hk2, hu2⟩)
              clear hk1 hu1 hk2 hu2
              have hf := HS.out.frz
              go_wp2_with fail
              go_region
              have hs2 : Sw w0 B (Go.Sort.swp dj j q) ((((((((((((wr.setCell ⟨B, j * 6, none⟩ (.string k2)).setCell ⟨B, j * 6 + 1, none⟩ (.int .i64 u2.k)).setCell ⟨B, j * 6 + 2, none⟩ (.int .i64 u2.n)).setCell ⟨B, j * 6 + 3, none⟩ (.string u2.s)).setCell ⟨B, j * 6 + 4, none⟩ (.slice u2.A u2.la u2.lc)).setCell ⟨B, j * 6 + 5, none⟩ (.slice u2.F u2.lf u2.fc)).setCell ⟨B, q * 6, none⟩ (.string k1)).setCell ⟨B, q * 6 + 1, none⟩ (.int .i64 u1.k)).setCell ⟨B, q * 6 + 2, none⟩ (.int .i64 u1.n)).setCell ⟨B, q * 6 + 3, none⟩ (.string u1.s)).setCell ⟨B, q * 6 + 4, none⟩ (.slice u1.A u1.la u1.lc)).setCell ⟨B, q * 6 + 5, none⟩ (.slice u1.F u1.lf u1.fc)).drew := HS.out.swap (by have := HSZ.out; omega) (by have := HSZ.out; omega) (by omega) HE.out
              generalize ((((((((((((wr.setCell ⟨B, j * 6, none⟩ (.string k2)).setCell ⟨B, j * 6 + 1, none⟩ (.int .i64 u2.k)).setCell ⟨B, j * 6 + 2, none⟩ (.int .i64 u2.n)).setCell ⟨B, j * 6 + 3, none⟩ (.string u2.s)).setCell ⟨B, j * 6 + 4, none⟩ (.slice u2.A u2.la u2.lc)).setCell ⟨B, j * 6 + 5, none⟩ (.slice u2.F u2.lf u2.fc)).setCell ⟨B, q * 6, none⟩ (.string k1)).setCell ⟨B, q * 6 + 1, none⟩ (.int .i64 u1.k)).setCell ⟨B, q * 6 + 2, none⟩ (.int .i64 u1.n)).setCell ⟨B, q * 6 + 3, none⟩ (.string u1.s)).setCell ⟨B, q * 6 + 4, none⟩ (.slice u1.A u1.la u1.lc)).setCell ⟨B, q * 6 + 5, none⟩ (.slice u1.F u1.lf u1.fc)).drew = w2 at hs2 ⊢
              have HS2 := Lib.hid hs2
              clear hs2 hf x0 x1 x2 x3 x4 x5 y0 y1 y2 y3 y4 y5
              go_wp2_with fail
              refine ⟨⟨q, Go.Sort.swp dj j q, by go_num, hqa, by omega, HS2.out, ?_, ?_, fun _ => HLE.out⟩, by simp [intOf]; omega⟩
              · rw [HQE.out]
                exact HR.out.down hji (by omega) (by have := HN.out; omega)
              · refine Go.Sort.permIn_trans _ _ _ _ _ HQ.out (Go.Sort.swp_permIn _ _ _ _ _ ?_ ?_ ?_ ?_ ?_)
                all_goals (have h9 := HSZ.out; omega)
            · have hzd : decide (z < 0) = false := decide_eq_false hzn
              have HMM : Hid (St.Mrg (rkE rk) Eo.ix d dj a (i + 1)) := Lib.hid (HFIN.out fun _ => by
                rw [← HQE.out, ← HEJ.out, ← HEQ.out]
                refine St.le_of_not (fun h => hzn (HZ.out.2 h)) ?_
                rw [HEJ.out, HEQ.out]
                exact HOLD.out q i hqa (by omega) (Nat.le_refl _) (Nat.lt_succ_self _))
              go_wp2_with fail
              exact ⟨⟨i + 1, dj, by go_num, by omega, by omega, HS3.out, HMM.out⟩, by simp [intOf]; omega⟩
          · have hj3 : ¬ (a : Int) < (j : Int) := by omega
            have hj4 : decide ((j : Int) > (a : Int)) = false := decide_eq_false (by omega)
            have HMM := Lib.hid (HFIN.out fun h => absurd h hja2)
            go_wp2_with fail
            go_region
            all_goals go_wp2_with fail
            all_goals exact ⟨⟨i + 1, dj, by go_num, by omega, by omega, HS.out.go ((Below.refl _ _).drew), HMM.out⟩, by simp [intOf]; omega⟩
      · obtain rfl : i = b := by omega
        go_wp2_with fail
        go_end0
        exact ⟨rfl, dk, HS.out, HM.out⟩
end Go.Proofs.Ytmdlcalnncncjaa
