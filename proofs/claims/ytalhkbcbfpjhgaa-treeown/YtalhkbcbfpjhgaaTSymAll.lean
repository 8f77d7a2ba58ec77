/- The stable sort by no keys: the merge, whole. -/
import Derived.Test.YtalhkbcbfpjhgaaTSymNil
set_option linter.unusedVariables false
set_option linter.unusedSimpArgs false
namespace Go.Proofs.Ytalhkbcbfpjhgaa
open Go.RowKit
set_option maxHeartbeats 2000000 in
set_option maxRecDepth 100000 in
theorem sym_nil (d : Nat) : ∀ (F : Option Addr) (c a m bb : Nat) (ks : List ByteArray) (Rv Mv Kv b n : Nat) (D : DataW Unit) (K : Option Addr) (kc : Nat) (w : World) (H : NilC w Rv Mv Kv b n D K kc F ks) (hn : ks.length ≤ 1000) (hkm : ∀ x ∈ ks, x.size ≤ maxLen) (hd : bb - a ≤ d) (h1 : a < m) (h2 : m < bb) (h3 : bb ≤ ks.length),
    Calls Try.prog 70 #[.slice F ks.length c, .int .i64 a, .int .i64 m, .int .i64 bb, cmpV Rv] w fun e w' => e = .returned (.tuple #[]) ∧ Below w.heap.size w w' := by
  induction d with
  | zero =>
    intro F c a m bb ks Rv Mv Kv b n D K kc w H hn hkm hd h1 h2 h3
    omega
  | succ d ih =>
  intro F c a m bb ks Rv Mv Kv b n D K kc w H hn hkm hd h1 h2 h3
  by_cases ha : m = a + 1
  · exact sym_one F c a m bb ks Rv Mv Kv b n D K kc w H hn hkm ha h2 h3
  by_cases hb : bb = m + 1
  · exact sym_two F c a m bb ks Rv Mv Kv b n D K kc w H hn hkm (by omega) hb h3
  have hma : ((m : Int) - (a : Int) == 1) = false := by simp; omega
  have hmb : ((bb : Int) - (m : Int) == 1) = false := by simp; omega
  have IH := Lib.hid ih
  clear ih
  obtain ⟨mid, hmid⟩ : ∃ mid : Nat, mid = (a + bb) / 2 := ⟨_, rfl⟩
  have hm1 : a + 2 ≤ mid := by omega
  have hm2 : mid + 2 ≤ bb := by omega
  have hmv : ((a : Int) + (bb : Int)) / 2 = (mid : Int) := by omega
  have hm3 : 2 * mid ≤ a + bb := by omega
  have hm4 : a + bb ≤ 2 * mid + 1 := by omega
  obtain ⟨N, hN⟩ : ∃ N : Nat, N = mid + m := ⟨_, rfl⟩
  obtain ⟨p, hp⟩ : ∃ p : Nat, p = mid + m - 1 := ⟨_, rfl⟩
  have hNv : (mid : Int) + (m : Int) = (N : Int) := by omega
  have hpv : (N : Int) - 1 = (p : Int) := by omega
  clear hmid
  by_cases hgt : mid < m
  · obtain ⟨s0, hs0⟩ : ∃ s0 : Nat, s0 = mid + m - bb := ⟨_, rfl⟩
    have hs0v : (N : Int) - (bb : Int) = (s0 : Int) := by omega
    have hs1 : a ≤ s0 := by omega
    have hs2 : s0 ≤ mid := by omega
    have hev : (N : Int) - (mid : Int) = (m : Int) := by omega
    have HE := Lib.hid (show p = mid + m - 1 ∧ s0 = mid + m - bb from ⟨hp, hs0⟩)
    clear hN hp hs0 ha hb
    go_enter Try.func70, Try.ntmps70
    go_wp2_with fail
    go_loopw [20, 21] (fun sv rv wr => ∃ st : Nat, sv = .int .i64 st ∧ rv = .int .i64 mid ∧ s0 ≤ st ∧ st ≤ mid ∧ Below w.heap.size w wr) (fun sv _ _ => mid - (intOf sv).toNat)
    case atStart => exact ⟨s0, rfl, rfl, Nat.le_refl _, hs2, Below.refl _ _⟩
    case round =>
      obtain ⟨st, rfl, rfl, hj1, hj2, hbel⟩ := hrel
      have HB := Lib.hid hbel
      clear hbel
      by_cases hlt : st < mid
      · obtain ⟨hh, hhe⟩ : ∃ hh : Nat, hh = (st + mid) / 2 := ⟨_, rfl⟩
        have hh1 : st ≤ hh := by omega
        have hh2 : hh < mid := by omega
        have hdv : ((st : Int) + (mid : Int)) / 2 = (hh : Int) := by omega
        obtain ⟨ee, hee⟩ : ∃ ee : Nat, ee = p - hh := ⟨_, rfl⟩
        have hel : ee < bb := by have := HE.out; omega
        have heu : (p : Int) - (hh : Int) = (ee : Int) := by have := HE.out; omega
        have hwe : IntKind.i64.wrap (ee : Int) = (ee : Int) := by rw [IntKind.wrap_i64]; omega
        clear hhe hee
        obtain ⟨k1, hk1⟩ : ∃ k1, ks[ee]? = some k1 := ⟨ks[ee]'(by omega), List.getElem?_eq_getElem (by omega)⟩
        obtain ⟨k2, hk2⟩ : ∃ k2, ks[hh]? = some k2 := ⟨ks[hh]'(by omega), List.getElem?_eq_getElem (by omega)⟩
        have HN := Lib.hid (H.below HB.out)
        obtain ⟨ad, u1, rfl, hbl1, hc1⟩ := HN.out.row ee k1 hk1
        obtain ⟨ad2, u2, hF2, hbl2, hc2⟩ := HN.out.row hh k2 hk2
        obtain rfl : ad = ad2 := Option.some.inj hF2
        obtain ⟨p0, p1, p2, p3, p4, p5⟩ := hc1
        obtain ⟨q0, q1, q2, q3, q4, q5⟩ := hc2
        have hs1 := hkm k1 (List.mem_of_getElem? hk1)
        have hs2 := hkm k2 (List.mem_of_getElem? hk2)
        have hb1 : (ee : Int) < (ks.length : Int) := by omega
        have hb2 : (hh : Int) < (ks.length : Int) := by omega
        clear hk1 hk2 hF2
        go_wp2_with fail
        go_still_tail 11, (by kernel_rfl)
        change wpList _ _ _ _ _ wr.drew
        have hbd : Below wr.heap.size wr wr.drew := (Below.refl _ _).drew
        generalize wr.drew = w2 at hbd ⊢
        have HBD := Lib.hid hbd
        clear hbd
        go_wp2_with fail
        refine (cmp_nil k1 k2 u1 u2 (HN.out.below HBD.out) hs1 hs2).mono ?_
        rintro e w3 ⟨rfl, hb4⟩
        have HB4 := Lib.hid (HB.out.trans ((HBD.out.trans (hb4.mono HBD.out.size)).mono HB.out.size))
        clear hb4
        go_wp2_with fail
        exact ⟨⟨hh + 1, by go_num, rfl, by omega, by omega, HB4.out⟩, by simp [intOf]; omega⟩
      · obtain rfl : st = mid := by omega
        have hst2 : (a : Int) < (st : Int) := by omega
        go_wp2_with fail
        refine (IH.out F c st m bb ks Rv Mv Kv b n D K kc wr (H.below HB.out) hn hkm (by omega) hgt h2 h3).mono ?_
        rintro e w3 ⟨rfl, hb4⟩
        have HB4 := Lib.hid (HB.out.trans (hb4.mono HB.out.size))
        clear hb4
        go_wp2_with fail
        go_end0
        exact ⟨rfl, HB4.out⟩
  · have hev : (N : Int) - (m : Int) = (mid : Int) := by omega
    have HE := Lib.hid (show p = mid + m - 1 from hp)
    clear hN hp ha hb
    go_enter Try.func70, Try.ntmps70
    go_wp2_with fail
    go_loopw [20, 21] (fun sv rv wr => ∃ st : Nat, sv = .int .i64 st ∧ rv = .int .i64 m ∧ a ≤ st ∧ st ≤ m ∧ Below w.heap.size w wr) (fun sv _ _ => m - (intOf sv).toNat)
    case atStart => exact ⟨a, rfl, rfl, Nat.le_refl _, by omega, Below.refl _ _⟩
    case round =>
      obtain ⟨st, rfl, rfl, hj1, hj2, hbel⟩ := hrel
      have HB := Lib.hid hbel
      clear hbel
      by_cases hlt : st < m
      · obtain ⟨hh, hhe⟩ : ∃ hh : Nat, hh = (st + m) / 2 := ⟨_, rfl⟩
        have hh1 : st ≤ hh := by omega
        have hh2 : hh < m := by omega
        have hdv : ((st : Int) + (m : Int)) / 2 = (hh : Int) := by omega
        obtain ⟨ee, hee⟩ : ∃ ee : Nat, ee = p - hh := ⟨_, rfl⟩
        have hel : ee < bb := by have := HE.out; omega
        have heu : (p : Int) - (hh : Int) = (ee : Int) := by have := HE.out; omega
        have hwe : IntKind.i64.wrap (ee : Int) = (ee : Int) := by rw [IntKind.wrap_i64]; omega
        clear hhe hee
        obtain ⟨k1, hk1⟩ : ∃ k1, ks[ee]? = some k1 := ⟨ks[ee]'(by omega), List.getElem?_eq_getElem (by omega)⟩
        obtain ⟨k2, hk2⟩ : ∃ k2, ks[hh]? = some k2 := ⟨ks[hh]'(by omega), List.getElem?_eq_getElem (by omega)⟩
        have HN := Lib.hid (H.below HB.out)
        obtain ⟨ad, u1, rfl, hbl1, hc1⟩ := HN.out.row ee k1 hk1
        obtain ⟨ad2, u2, hF2, hbl2, hc2⟩ := HN.out.row hh k2 hk2
        obtain rfl : ad = ad2 := Option.some.inj hF2
        obtain ⟨p0, p1, p2, p3, p4, p5⟩ := hc1
        obtain ⟨q0, q1, q2, q3, q4, q5⟩ := hc2
        have hs1 := hkm k1 (List.mem_of_getElem? hk1)
        have hs2 := hkm k2 (List.mem_of_getElem? hk2)
        have hb1 : (ee : Int) < (ks.length : Int) := by omega
        have hb2 : (hh : Int) < (ks.length : Int) := by omega
        clear hk1 hk2 hF2
        go_wp2_with fail
        go_still_tail 11, (by kernel_rfl)
        change wpList _ _ _ _ _ wr.drew
        have hbd : Below wr.heap.size wr wr.drew := (Below.refl _ _).drew
        generalize wr.drew = w2 at hbd ⊢
        have HBD := Lib.hid hbd
        clear hbd
        go_wp2_with fail
        refine (cmp_nil k1 k2 u1 u2 (HN.out.below HBD.out) hs1 hs2).mono ?_
        rintro e w3 ⟨rfl, hb4⟩
        have HB4 := Lib.hid (HB.out.trans ((HBD.out.trans (hb4.mono HBD.out.size)).mono HB.out.size))
        clear hb4
        go_wp2_with fail
        exact ⟨⟨hh + 1, by go_num, rfl, by omega, by omega, HB4.out⟩, by simp [intOf]; omega⟩
      · obtain rfl : st = m := by omega
        by_cases hmm : st < mid
        · go_wp2_with fail
          refine (IH.out F c a st mid ks Rv Mv Kv b n D K kc wr (H.below HB.out) hn hkm (by omega) h1 hmm (by omega)).mono ?_
          rintro e w3 ⟨rfl, hb4⟩
          have HB4 := Lib.hid (HB.out.trans (hb4.mono HB.out.size))
          clear hb4
          go_wp2_with fail
          go_end0
          exact ⟨rfl, HB4.out⟩
        · go_wp2_with fail
          go_end0
          exact ⟨rfl, HB.out⟩
end Go.Proofs.Ytalhkbcbfpjhgaa
