/- The stable sort by no keys: nothing is exchanged. The merge. -/
import Derived.Test.YtalhkbcbfpjhgaaTInsNil
set_option linter.unusedVariables false
set_option linter.unusedSimpArgs false
namespace Go.Proofs.Ytalhkbcbfpjhgaa
open Go.RowKit
set_option maxHeartbeats 1000000 in
set_option maxRecDepth 100000 in
theorem sym_one (F : Option Addr) (c a m bb : Nat) (ks : List ByteArray) (Rv Mv Kv b n : Nat) (D : DataW Unit) (K : Option Addr) (kc : Nat) (w : World) (H : NilC w Rv Mv Kv b n D K kc F ks) (hn : ks.length ≤ 1000) (hkm : ∀ x ∈ ks, x.size ≤ maxLen) (h1 : m = a + 1) (h2 : m < bb) (h3 : bb ≤ ks.length) :
    Calls Try.prog 70 #[.slice F ks.length c, .int .i64 a, .int .i64 m, .int .i64 bb, cmpV Rv] w fun e w' => e = .returned (.tuple #[]) ∧ Below w.heap.size w w' := by
  have hma : ((m : Int) - (a : Int) == 1) = true := by simp; omega
  have hma2 : (m : Int) - (a : Int) = 1 := by omega
  have hma3 : (m : Int) - 1 = (a : Int) := by omega
  have ham : a < m := by omega
  clear h1
  go_enter Try.func70, Try.ntmps70
  go_wp2_with fail
  go_loopw [10, 11] (fun iv jv wr => ∃ j : Nat, iv = .int .i64 m ∧ jv = .int .i64 j ∧ m ≤ j ∧ j ≤ bb ∧ Below w.heap.size w wr) (fun _ jv _ => (intOf jv).toNat)
  case atStart => exact ⟨bb, rfl, rfl, by omega, Nat.le_refl _, Below.refl _ _⟩
  case round =>
    obtain ⟨j, rfl, rfl, hj1, hj2, hbel⟩ := hrel
    have HB := Lib.hid hbel
    clear hbel
    by_cases hlt : m < j
    · obtain ⟨hh, hhe⟩ : ∃ hh : Nat, hh = (m + j) / 2 := ⟨_, rfl⟩
      have hh1 : m ≤ hh := by omega
      have hh2 : hh < j := by omega
      have hdv : ((m : Int) + (j : Int)) / 2 = (hh : Int) := by omega
      clear hhe
      obtain ⟨k1, hk1⟩ : ∃ k1, ks[hh]? = some k1 := ⟨ks[hh]'(by omega), List.getElem?_eq_getElem (by omega)⟩
      obtain ⟨k2, hk2⟩ : ∃ k2, ks[a]? = some k2 := ⟨ks[a]'(by omega), List.getElem?_eq_getElem (by omega)⟩
      have HN := Lib.hid (H.below HB.out)
      obtain ⟨ad, u1, rfl, hbl1, hc1⟩ := HN.out.row hh k1 hk1
      obtain ⟨ad2, u2, hF2, hbl2, hc2⟩ := HN.out.row a k2 hk2
      obtain rfl : ad = ad2 := Option.some.inj hF2
      obtain ⟨p0, p1, p2, p3, p4, p5⟩ := hc1
      obtain ⟨q0, q1, q2, q3, q4, q5⟩ := hc2
      have hs1 := hkm k1 (List.mem_of_getElem? hk1)
      have hs2 := hkm k2 (List.mem_of_getElem? hk2)
      have hb1 : (hh : Int) < (ks.length : Int) := by omega
      have hb2 : (a : Int) < (ks.length : Int) := by omega
      clear hk1 hk2 hF2
      go_wp2_with fail
      go_still_tail 9, (by kernel_rfl)
      change wpList _ _ _ _ _ wr.drew
      have hbd : Below wr.heap.size wr wr.drew := (Below.refl _ _).drew
      generalize wr.drew = w2 at hbd ⊢
      have HBD := Lib.hid hbd
      clear hbd
      go_wp2_with fail
      refine (cmp_nil k1 k2 u1 u2 (HN.out.below HBD.out) hs1 hs2).mono ?_
      rintro e w3 ⟨rfl, hb4⟩
      have HB4 := Lib.hid (HB.out.trans ((HBD.out.trans (hb4.mono HBD.out.size)).mono HB.out.size))
      clear hb4
      go_wp2_with fail
      exact ⟨⟨hh, rfl, rfl, by omega, by omega, HB4.out⟩, by simp [intOf]; omega⟩
    · go_wp2_with fail
      refine wp_loop_rounds 1 ?_
      rw [rounds_succ]
      go_wp2_with fail
      refine bodyPost_ret (results_none rfl _ _ _) rfl ?_
      exact ⟨rfl, HB.out⟩
set_option maxHeartbeats 1000000 in
set_option maxRecDepth 100000 in
theorem sym_two (F : Option Addr) (c a m bb : Nat) (ks : List ByteArray) (Rv Mv Kv b n : Nat) (D : DataW Unit) (K : Option Addr) (kc : Nat) (w : World) (H : NilC w Rv Mv Kv b n D K kc F ks) (hn : ks.length ≤ 1000) (hkm : ∀ x ∈ ks, x.size ≤ maxLen) (h1 : a + 1 < m) (h2 : bb = m + 1) (h3 : bb ≤ ks.length) :
    Calls Try.prog 70 #[.slice F ks.length c, .int .i64 a, .int .i64 m, .int .i64 bb, cmpV Rv] w fun e w' => e = .returned (.tuple #[]) ∧ Below w.heap.size w w' := by
  have hma : ((m : Int) - (a : Int) == 1) = false := by simp; omega
  have hmb : ((bb : Int) - (m : Int) == 1) = true := by simp; omega
  have hmb2 : (bb : Int) - (m : Int) = 1 := by omega
  have hmbb : m < bb := by omega
  clear h2
  go_enter Try.func70, Try.ntmps70
  go_wp2_with fail
  go_loopw [14, 15] (fun iv jv wr => ∃ i : Nat, iv = .int .i64 i ∧ jv = .int .i64 m ∧ a ≤ i ∧ i ≤ m ∧ Below w.heap.size w wr) (fun iv _ _ => m - (intOf iv).toNat)
  case atStart => exact ⟨a, rfl, rfl, Nat.le_refl _, by omega, Below.refl _ _⟩
  case round =>
    obtain ⟨i, rfl, rfl, hj1, hj2, hbel⟩ := hrel
    have HB := Lib.hid hbel
    clear hbel
    by_cases hlt : i < m
    · obtain ⟨hh, hhe⟩ : ∃ hh : Nat, hh = (i + m) / 2 := ⟨_, rfl⟩
      have hh1 : i ≤ hh := by omega
      have hh2 : hh < m := by omega
      have hdv : ((i : Int) + (m : Int)) / 2 = (hh : Int) := by omega
      clear hhe
      obtain ⟨k1, hk1⟩ : ∃ k1, ks[m]? = some k1 := ⟨ks[m]'(by omega), List.getElem?_eq_getElem (by omega)⟩
      obtain ⟨k2, hk2⟩ : ∃ k2, ks[hh]? = some k2 := ⟨ks[hh]'(by omega), List.getElem?_eq_getElem (by omega)⟩
      have HN := Lib.hid (H.below HB.out)
      obtain ⟨ad, u1, rfl, hbl1, hc1⟩ := HN.out.row m k1 hk1
      obtain ⟨ad2, u2, hF2, hbl2, hc2⟩ := HN.out.row hh k2 hk2
      obtain rfl : ad = ad2 := Option.some.inj hF2
      obtain ⟨p0, p1, p2, p3, p4, p5⟩ := hc1
      obtain ⟨q0, q1, q2, q3, q4, q5⟩ := hc2
      have hs1 := hkm k1 (List.mem_of_getElem? hk1)
      have hs2 := hkm k2 (List.mem_of_getElem? hk2)
      have hb1 : (m : Int) < (ks.length : Int) := by omega
      have hb2 : (hh : Int) < (ks.length : Int) := by omega
      clear hk1 hk2 hF2
      go_wp2_with fail
      go_still_tail 9, (by kernel_rfl)
      change wpList _ _ _ _ _ wr.drew
      have hbd : Below wr.heap.size wr wr.drew := (Below.refl _ _).drew
      generalize wr.drew = w2 at hbd ⊢
      have HBD := Lib.hid hbd
      clear hbd
      go_wp2_with fail
      refine (cmp_nil k1 k2 u1 u2 (HN.out.below HBD.out) hs1 hs2).mono ?_
      rintro e w3 ⟨rfl, hb4⟩
      have HB4 := Lib.hid (HB.out.trans ((HBD.out.trans (hb4.mono HBD.out.size)).mono HB.out.size))
      clear hb4
      go_wp2_with fail
      exact ⟨⟨hh + 1, by go_num, rfl, by omega, by omega, HB4.out⟩, by simp [intOf]; omega⟩
    · obtain rfl : i = m := by omega
      go_wp2_with fail
      refine wp_loop_rounds 1 ?_
      rw [rounds_succ]
      go_wp2_with fail
      refine bodyPost_ret (results_none rfl _ _ _) rfl ?_
      exact ⟨rfl, HB.out⟩
end Go.Proofs.Ytalhkbcbfpjhgaa
