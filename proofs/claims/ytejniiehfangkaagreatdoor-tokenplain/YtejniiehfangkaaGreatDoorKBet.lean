/- What stands between tokens: the rule that keeps in mind whether a remark goes on, and all of it. -/
import Derived.Test.YtejniiehfangkaaGreatDoorKTake
import Derived.Deep.RegionHeld3
set_option linter.unusedVariables false
set_option linter.unusedSimpArgs false
namespace Go.Proofs.YtejniiehfangkaaGreatDoor
open Go.RowKit
def stA (r : Bool) (c : Nat) : Bool := if c = 10 ∨ c = 13 ∨ c = 35 ∨ c = 32 ∨ c = 9 ∨ c = 44 then true else r
def stR (r : Bool) (c : Nat) : Bool := if c = 10 ∨ c = 13 then false else if c = 35 then true else r
theorem betw_cons (r : Bool) (c : UInt8) (t : List UInt8) : betw r (c :: t) = if stA r c.toNat then betw (stR r c.toNat) t + 1 else 0 := by
  unfold stA stR
  conv => lhs; unfold betw
  generalize c.toNat = z
  by_cases h1 : z = 10 ∨ z = 13
  · have hA : z = 10 ∨ z = 13 ∨ z = 35 ∨ z = 32 ∨ z = 9 ∨ z = 44 := by omega
    rw [if_pos h1, if_pos hA, if_pos h1]; rfl
  by_cases h2 : z = 35
  · have hA : z = 10 ∨ z = 13 ∨ z = 35 ∨ z = 32 ∨ z = 9 ∨ z = 44 := by omega
    rw [if_neg h1, if_pos h2, if_pos hA, if_neg h1, if_pos h2]; rfl
  by_cases h3 : z = 32 ∨ z = 9 ∨ z = 44
  · have hA : z = 10 ∨ z = 13 ∨ z = 35 ∨ z = 32 ∨ z = 9 ∨ z = 44 := by omega
    rw [if_neg h1, if_neg h2, if_pos h3, if_pos hA, if_neg h1, if_neg h2]; rfl
  · have hA : ¬ (z = 10 ∨ z = 13 ∨ z = 35 ∨ z = 32 ∨ z = 9 ∨ z = 44) := by omega
    rw [if_neg h1, if_neg h2, if_neg h3, if_neg hA, if_neg h1, if_neg h2]
theorem bt_step {s : ByteArray} {r : Bool} {k : Nat} (h : k < s.size) (hp : stA r (s.get! k).toNat = true) : betw r (s.data.toList.drop k) = betw (stR r (s.get! k).toNat) (s.data.toList.drop (k + 1)) + 1 := by
  rw [drop_cons s k h, betw_cons, hp]; rfl
theorem bt_end {s : ByteArray} {r : Bool} {k : Nat} (h : ¬ k < s.size) : betw r (s.data.toList.drop k) = 0 := by
  rw [List.drop_of_length_le (by rw [← Lib.size_eq]; omega)]; rfl
theorem bt_no {s : ByteArray} {r : Bool} {k : Nat} (h : k < s.size) (hp : stA r (s.get! k).toNat = false) : betw r (s.data.toList.drop k) = 0 := by
  rw [drop_cons s k h, betw_cons, hp]; rfl
def BtP (Q : Nat) (a b : Bool) (w : World) (e : Ending) (w' : World) : Prop := e = .returned (.bool a) ∧ One w' Q 4 (.bool b) ∧ Kp Q w w'
theorem rule_at (Q : Nat) (r : Bool) (c : Nat) (b : Bool) (w : World) (hQ : One w Q 4 (.bool r)) (hc : (c = 10 ∧ b = false) ∨ (c = 13 ∧ b = false) ∨ (c = 35 ∧ b = true)) : Calls Tryz.prog 34 #[.int .u8 (c : Int), .pointer (some ⟨Q, 0, none⟩)] w (BtP Q true b w) := by
  have f0 := hQ.f
  have c0 := hQ.c
  have HQ := Lib.hid hQ
  clear hQ
  go_enter Tryz.func34, Tryz.ntmps34
  rcases hc with ⟨rfl, rfl⟩ | ⟨rfl, rfl⟩ | ⟨rfl, rfl⟩
  all_goals
    go_wp2_with fail
    go_ret
    exact ⟨rfl, HQ.out.set _, (Kp.refl _ _).setN _⟩
theorem rule_by (Q : Nat) (r : Bool) (c : Nat) (w : World) (hQ : One w Q 4 (.bool r)) (hc : c = 32 ∨ c = 9 ∨ c = 44) : Calls Tryz.prog 34 #[.int .u8 (c : Int), .pointer (some ⟨Q, 0, none⟩)] w (BtP Q true r w) := by
  have HQ := Lib.hid hQ
  clear hQ
  go_enter Tryz.func34, Tryz.ntmps34
  rcases hc with rfl | rfl | rfl
  all_goals
    go_wp2_with fail
    go_ret
    exact ⟨rfl, HQ.out, Kp.refl _ _⟩
theorem rule_no (Q : Nat) (r : Bool) (z : Int) (w : World) (hQ : One w Q 4 (.bool r)) (e1 : (z == 10) = false) (e2 : (z == 13) = false) (e3 : (z == 35) = false) (e4 : (z == 32) = false) (e5 : (z == 9) = false) (e6 : (z == 44) = false) : Calls Tryz.prog 34 #[.int .u8 z, .pointer (some ⟨Q, 0, none⟩)] w (BtP Q r r w) := by
  have c0 := hQ.c
  have HQ := Lib.hid hQ
  clear hQ
  go_enter Tryz.func34, Tryz.ntmps34
  go_wp2_with fail
  go_ret
  exact ⟨rfl, HQ.out, Kp.refl _ _⟩
theorem rule_any (Q : Nat) (r : Bool) (c : Nat) (w : World) (hQ : One w Q 4 (.bool r)) : Calls Tryz.prog 34 #[.int .u8 (c : Int), .pointer (some ⟨Q, 0, none⟩)] w (BtP Q (stA r c) (stR r c) w) := by
  by_cases h1 : c = 10 ∨ c = 13 ∨ c = 35
  · have hb : stA r c = true := by unfold stA; rw [if_pos (by omega)]
    rw [hb]
    refine rule_at Q r c _ w hQ ?_
    unfold stR
    rcases h1 with rfl | rfl | rfl <;> simp
  by_cases h2 : c = 32 ∨ c = 9 ∨ c = 44
  · have hb : stA r c = true := by unfold stA; rw [if_pos (by omega)]
    have hr : stR r c = r := by unfold stR; rw [if_neg (by omega), if_neg (by omega)]
    rw [hb, hr]
    exact rule_by Q r c w hQ h2
  · have hb : stA r c = r := by unfold stA; rw [if_neg (by omega)]
    have hr : stR r c = r := by unfold stR; rw [if_neg (by omega), if_neg (by omega)]
    rw [hb, hr]
    exact rule_no Q r c w hQ (by simp; omega) (by simp; omega) (by simp; omega) (by simp; omega) (by simp; omega) (by simp; omega)
set_option maxHeartbeats 1000000 in
set_option maxRecDepth 100000 in
theorem take_bt (x : ByteArray) (R Q B : Nat) (w : World) (hR : One w R 9 (.string x)) (hQ : One w Q 4 (.bool false)) (hs : x.size ≤ 1000000) (hRQ : R ≠ Q) (hBR : B ≤ R) (hBQ : B ≤ Q) : Calls Tryz.prog 53 #[.func (.func 34) #[] #[.pointer (some ⟨Q, 0, none⟩)], .pointer (some ⟨R, 0, none⟩)] w fun e w' => e = .returned (.string (x.extract 0 (betw false x.data.toList))) ∧ Below B w w' := by
  have HR := Lib.hid hR
  have HQ := Lib.hid hQ
  have HL := Lib.hid (betw_le false x.data.toList)
  obtain ⟨N, hN⟩ : ∃ N, betw false x.data.toList = N := ⟨_, rfl⟩
  have HN := Lib.hid hN
  rw [hN, ← Lib.size_eq] at HL
  have hNs : N ≤ x.size := HL.out
  clear hR hQ hN HL
  go_enter Tryz.func53, Tryz.ntmps53
  go_wp2_with fail
  go_loopw [4] (fun v wr => ∃ (k : Nat) (r : Bool), v = .int .i64 (k : Nat) ∧ k ≤ N ∧ One wr R 9 (.string x) ∧ One wr Q 4 (.bool r) ∧ Below B w wr ∧ k + betw r (x.data.toList.drop k) = N) (fun v _ => x.size - (intOf v).toNat)
  case atStart => exact ⟨0, false, rfl, Nat.zero_le _, HR.out, HQ.out, Below.refl _ _, by rw [List.drop_zero, Nat.zero_add]; exact HN.out⟩
  case round =>
    obtain ⟨k, r, rfl, hk, hO, hP, hK, hT⟩ := hrel
    have c0 := hO.c
    have f0 := hO.f
    have HO := Lib.hid hO
    have HP := Lib.hid hP
    have HK := Lib.hid hK
    have HT := Lib.hid hT
    clear hO hP hK hT
    by_cases hlt : k < x.size
    · have hgb := get_bang x k hlt
      have KD : Hid (∀ W, One W Q 4 (.bool r) → Calls Tryz.prog 34 #[.int .u8 (x[k]'hlt).toNat, .pointer (some ⟨Q, 0, none⟩)] W (BtP Q (stA r (x.get! k).toNat) (stR r (x.get! k).toNat) W)) := Lib.hid (fun W h => by rw [← hgb]; exact rule_any Q r _ W h)
      cases hp : stA r (x.get! k).toNat
      · have HE : Hid (k = N) := Lib.hid (by have := HT.out; rw [bt_no hlt hp] at this; exact this)
        rw [hp] at KD
        clear hgb hp
        go_wp2_with fail
        refine (KD.out _ HP.out).mono ?_
        rintro e w1 ⟨rfl, hQ1, hk1⟩
        have HO1 := Lib.hid (HO.out.kp hk1 hRQ)
        have c1 := HO1.out.c
        have f1 := HO1.out.f
        have HK1 := Lib.hid (HK.out.trans (hk1.bel.mono hBQ))
        clear hQ1 hk1
        go_wp2_with fail
        go_ret
        have hE := HE.out
        subst hE
        refine ⟨?_, HK1.out.setCell hBR _⟩
        first | (rw [HN.out]; done) | (rw [HN.out]; rfl)
      · have HS := Lib.hid (bt_step hlt hp)
        rw [hp] at KD
        generalize stR r (x.get! k).toNat = r2 at *
        clear hgb hp
        go_wp2_with fail
        refine (KD.out _ HP.out).mono ?_
        rintro e w1 ⟨rfl, hQ1, hk1⟩
        have HO1 := Lib.hid (HO.out.kp hk1 hRQ)
        have c1 := HO1.out.c
        have HQ1 := Lib.hid hQ1
        have HK1 := Lib.hid (HK.out.trans (hk1.bel.mono hBQ))
        clear hQ1 hk1
        go_wp2_with fail
        have hT := HT.out
        rw [HS.out] at hT
        exact ⟨⟨k + 1, r2, by go_num, by omega, HO1.out, HQ1.out, HK1.out, by omega⟩, by simp [intOf]; omega⟩
    · have HE : Hid (k = N) := Lib.hid (by have := HT.out; rw [bt_end hlt] at this; exact this)
      go_wp2_with fail
      go_ret
      have hE := HE.out
      subst hE
      refine ⟨?_, HK.out.setCell hBR _⟩
      first | (rw [HN.out]; done) | (rw [HN.out]; rfl)
set_option maxHeartbeats 1000000 in
set_option maxRecDepth 100000 in
theorem between_any (x : ByteArray) (hs : x.size ≤ 1000000) (w : World) : Calls Tryz.prog 19 #[.string x] w fun e w' => e = .returned (.int .i64 (betw false x.data.toList)) ∧ Below w.heap.size w w' := by
  have hmf : ∀ (fn : Fn) (first cap : Array Value) (w : World), (Instr.makeFunc fn first cap).run Tryz.prog w = .ok (.func fn first cap) w := fun _ _ _ _ => rfl
  have HB0 := Lib.hid ((Below.refl w.heap.size w).alloc (Nat.le_refl _) (.cells #[.bool false] 4))
  have HS0 := Lib.hid (show (w.alloc (.cells #[.bool false] 4)).heap.size = w.heap.size + 1 by simp)
  have HQ0 := Lib.hid (show One (w.alloc (.cells #[.bool false] 4)) w.heap.size 4 (.bool false) from heap_alloc_new w _)
  have hL := betw_le false x.data.toList
  rw [← Lib.size_eq] at hL
  go_enter Tryz.func19, Tryz.ntmps19
  go_wp2_with fail
  generalize w.alloc (.cells #[.bool false] 4) = w0 at HB0 HS0 HQ0 ⊢
  refine (taker_any x w0).mono ?_
  rintro e w1 ⟨rfl, rfl⟩
  have HR1 := Lib.hid (show One (w0.alloc (.cells #[.string x] 9)) w0.heap.size 9 (.string x) from heap_alloc_new w0 _)
  have HB1 := Lib.hid ((Below.refl w0.heap.size w0).alloc (Nat.le_refl _) (.cells #[.string x] 9))
  have HQ1 := Lib.hid (HQ0.out.below HB1.out)
  have hz := HS0.out
  have KT := Lib.hid (take_bt x w0.heap.size w.heap.size w.heap.size _ HR1.out HQ1.out hs (by omega) (by omega) (Nat.le_refl _))
  generalize w0.alloc (.cells #[.string x] 9) = w2 at HR1 HB1 HQ1 KT ⊢
  obtain ⟨Q, hQ⟩ : ∃ Q, w0.heap.size = Q := ⟨_, rfl⟩
  have HB2 := Lib.hid (HB0.out.trans (HB1.out.mono (by omega)))
  rw [hQ] at KT
  clear hz
  go_wp2_with fail
  refine KT.out.mono ?_
  rintro e w3 ⟨rfl, hb3⟩
  have hsz : (x.extract 0 (betw false x.data.toList)).size = betw false x.data.toList := by rw [ByteArray.size_extract]; omega
  have HZ := Lib.hid hsz
  generalize x.extract 0 (betw false x.data.toList) = y at HZ ⊢
  go_wp2_with fail
  go_ret
  refine ⟨?_, HB2.out.trans hb3⟩
  rw [← HZ.out]
  rfl
end Go.Proofs.YtejniiehfangkaaGreatDoor
