/- The stable sort by no keys: nothing is exchanged. The whole. -/
import Derived.Test.YtalhkbcbfpjhgaaTSymAll
set_option linter.unusedVariables false
set_option linter.unusedSimpArgs false
namespace Go.Proofs.Ytalhkbcbfpjhgaa
open Go.RowKit
set_option maxHeartbeats 2000000 in
set_option maxRecDepth 100000 in
theorem stab_nil (F : Option Addr) (c : Nat) (ks : List ByteArray) (Rv Mv Kv b n : Nat) (D : DataW Unit) (K : Option Addr) (kc : Nat) (w : World) (H : NilC w Rv Mv Kv b n D K kc F ks) (hn : ks.length ≤ 1000) (hkm : ∀ x ∈ ks, x.size ≤ maxLen) :
    Calls Try.prog 63 #[.slice F ks.length c, .int .i64 ks.length, cmpV Rv] w fun e w' => e = .returned (.tuple #[]) ∧ Below w.heap.size w w' := by
  obtain ⟨L, hL⟩ : ∃ L : Nat, L = ks.length := ⟨_, rfl⟩
  have HL := Lib.hid hL
  rw [← hL] at hn ⊢
  have HIN := Lib.hid (fun (lo hi : Nat) (wx : World) (hx : NilC wx Rv Mv Kv b n D K kc F ks) (h1 : lo ≤ hi) (h2 : hi ≤ L) => ins_nil F c lo hi ks Rv Mv Kv b n D K kc wx hx (by omega) hkm h1 (by omega))
  have HSY := Lib.hid (fun (a m bb : Nat) (wx : World) (hx : NilC wx Rv Mv Kv b n D K kc F ks) (h1 : a < m) (h2 : m < bb) (h3 : bb ≤ L) => sym_nil 1000 F c a m bb ks Rv Mv Kv b n D K kc wx hx (by omega) hkm (by omega) h1 h2 (by omega))
  rw [← hL] at HIN HSY
  clear hL
  go_enter Try.func63, Try.ntmps63
  go_wp2_with fail
  go_loopw [7, 8] (fun av bv wr => ∃ a : Nat, av = .int .i64 a ∧ bv = .int .i64 (a + 20 : Nat) ∧ a ≤ L ∧ Below w.heap.size w wr) (fun av _ _ => L + 20 - (intOf av).toNat)
  case atStart => exact ⟨0, rfl, rfl, Nat.zero_le _, Below.refl _ _⟩
  case round =>
    obtain ⟨a, rfl, rfl, ha, hbel⟩ := hrel
    have HB := Lib.hid hbel
    clear hbel
    obtain ⟨q, hq⟩ : ∃ q : Nat, q = a + 20 := ⟨_, rfl⟩
    rw [← hq]
    have hq1 : a < q := by omega
    have HQ := Lib.hid hq
    clear hq
    by_cases hlt : q ≤ L
    · go_wp2_with fail
      refine (HIN.out a q wr (H.below HB.out) (by omega) hlt).mono ?_
      rintro e w1 ⟨rfl, hb1⟩
      have HB1 := Lib.hid (HB.out.trans (hb1.mono HB.out.size))
      clear hb1
      go_wp2_with fail
      exact ⟨⟨q, rfl, by have := HQ.out; go_num, hlt, HB1.out⟩, by simp [intOf]; omega⟩
    · go_wp2_with fail
      refine (HIN.out a L wr (H.below HB.out) ha (Nat.le_refl _)).mono ?_
      rintro e w1 ⟨rfl, hb1⟩
      have HB1 := Lib.hid (HB.out.trans (hb1.mono HB.out.size))
      clear hb1 HB
      go_wp2_with fail
      go_loopw [6] (fun sv wt => ∃ bs : Nat, sv = .int .i64 bs ∧ 20 ≤ bs ∧ bs ≤ 2000 ∧ Below w.heap.size w wt) (fun sv _ => 4000 - (intOf sv).toNat)
      case atStart => exact ⟨20, rfl, Nat.le_refl _, by omega, HB1.out⟩
      case round =>
        clear HB1
        obtain ⟨bs, rfl, hs1, hs2, hbel⟩ := hrel
        have HB := Lib.hid hbel
        clear hbel
        by_cases hbs : bs < L
        · have hmul : (2 : Int) * (bs : Int) = ((2 * bs : Nat) : Int) := by omega
          obtain ⟨b2, hb2⟩ : ∃ b2 : Nat, b2 = 2 * bs := ⟨_, rfl⟩
          rw [← hb2] at hmul
          have hb2a : bs < b2 := by omega
          have hb2c : b2 ≤ 2000 := by omega
          have HB2 := Lib.hid hb2
          clear hb2
          go_wp2_with fail
          go_loopw [7, 8] (fun av bv wt => ∃ a : Nat, av = .int .i64 a ∧ bv = .int .i64 (a + b2 : Nat) ∧ a ≤ L ∧ Below w.heap.size w wt) (fun av _ _ => L + 2000 - (intOf av).toNat)
          case atStart => exact ⟨0, rfl, by simp, Nat.zero_le _, HB.out⟩
          case round =>
            clear HB
            obtain ⟨a', rfl, rfl, ha', hbel⟩ := hrel
            have HB := Lib.hid hbel
            clear hbel
            obtain ⟨q2, hq2⟩ : ∃ q2 : Nat, q2 = a' + b2 := ⟨_, rfl⟩
            obtain ⟨m2, hm2⟩ : ∃ m2 : Nat, m2 = a' + bs := ⟨_, rfl⟩
            rw [← hq2]
            have hms : (a' : Int) + (bs : Int) = (m2 : Int) := by omega
            have hm3 : a' < m2 := by omega
            have hm4 : m2 < q2 := by omega
            have hq3 : q2 ≤ a' + 2000 := by omega
            have HQ2 := Lib.hid hq2
            clear hq2 hm2
            by_cases hlt2 : q2 ≤ L
            · go_wp2_with fail
              refine (HSY.out a' m2 q2 wr (H.below HB.out) hm3 hm4 hlt2).mono ?_
              rintro e w1 ⟨rfl, hb1⟩
              have HB1 := Lib.hid (HB.out.trans (hb1.mono HB.out.size))
              clear hb1
              go_wp2_with fail
              exact ⟨⟨q2, rfl, by have := HQ2.out; have := HB2.out; go_num, hlt2, HB1.out⟩, by simp [intOf]; omega⟩
            · by_cases hml : m2 < L
              · go_wp2_with fail
                refine (HSY.out a' m2 L wr (H.below HB.out) hm3 hml (Nat.le_refl _)).mono ?_
                rintro e w1 ⟨rfl, hb1⟩
                have HB1 := Lib.hid (HB.out.trans (hb1.mono HB.out.size))
                clear hb1
                go_wp2_with fail
                exact ⟨⟨b2, by rw [show ((bs : Int) * 2) = (b2 : Int) by have := HB2.out; omega], by omega, by omega, HB1.out⟩, by have := HB2.out; simp [intOf]; omega⟩
              · go_wp2_with fail
                exact ⟨⟨b2, by rw [show ((bs : Int) * 2) = (b2 : Int) by have := HB2.out; omega], by omega, by omega, HB.out⟩, by have := HB2.out; simp [intOf]; omega⟩
        · go_wp2_with fail
          go_end0
          exact ⟨rfl, HB.out⟩
theorem sort_nil (F : Option Addr) (c : Nat) (ks : List ByteArray) (Rv Mv Kv b n : Nat) (D : DataW Unit) (K : Option Addr) (kc : Nat) (w : World) (H : NilC w Rv Mv Kv b n D K kc F ks) (hn : ks.length ≤ 1000) (hkm : ∀ x ∈ ks, x.size ≤ maxLen) :
    Calls Try.prog 49 #[.slice F ks.length c, cmpV Rv] w fun e w' => e = .returned (.tuple #[]) ∧ Below w.heap.size w w' := by
  have HS := Lib.hid (stab_nil F c ks Rv Mv Kv b n D K kc w H hn hkm)
  clear H
  go_enter Try.func49, Try.ntmps49
  go_wp2_with fail
  refine HS.out.mono ?_
  rintro e w1 ⟨rfl, hb1⟩
  go_wp2_with fail
  go_end0
  exact ⟨rfl, hb1⟩
end Go.Proofs.Ytalhkbcbfpjhgaa
