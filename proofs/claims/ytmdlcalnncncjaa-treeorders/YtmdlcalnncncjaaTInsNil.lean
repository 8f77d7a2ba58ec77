/- The stable sort by no keys: nothing is exchanged. The insertion sort. -/
import Derived.Test.YtmdlcalnncncjaaTOrd2
import Derived.StillTailTactics
set_option linter.unusedVariables false
set_option linter.unusedSimpArgs false
namespace Go.Proofs.Ytmdlcalnncncjaa
open Go.RowKit
abbrev cmpV (Rv : Nat) : Value := .func (.func 82) #[] #[.pointer (some ⟨Rv, 0, none⟩)]
/-- The comparison by no keys, and the pairs that are sorted. -/
structure NilC (w : World) (Rv Mv Kv b n : Nat) (D : DataW Unit) (K : Option Addr) (kc : Nat) (F : Option Addr) (ks : List ByteArray) : Prop where
  rank : RankAt w Mv Kv [] b n D K kc
  rv : w.cell? ⟨Rv, 0, none⟩ = some (closR Mv Kv)
  row : KeyRow w F ks
theorem NilC.below {w w' : World} {Rv Mv Kv b n : Nat} {D : DataW Unit} {K : Option Addr} {kc : Nat} {F : Option Addr} {ks : List ByteArray} (H : NilC w Rv Mv Kv b n D K kc F ks) (hb : Below w.heap.size w w') : NilC w' Rv Mv Kv b n D K kc F ks :=
  ⟨H.rank.below hb, cur_bel H.rv hb, H.row.below hb (Nat.le_refl _)⟩
theorem rank_nil {k : ByteArray} {r : Int} (h : RankP [] k r) : r = 0 := by
  rcases h with ⟨i, _, h⟩ | ⟨h, _⟩
  · simp at h
  · simpa using h
theorem cmp_nil (k1 k2 : ByteArray) (u1 u2 : Hd) {w : World} {Rv Mv Kv b n : Nat} {D : DataW Unit} {K : Option Addr} {kc : Nat} {F : Option Addr} {ks : List ByteArray} (H : NilC w Rv Mv Kv b n D K kc F ks) (hk1 : k1.size ≤ maxLen) (hk2 : k2.size ≤ maxLen) :
    Calls Try.prog 82 #[.agg #[.string k1, .int .i64 u1.k, .int .i64 u1.n, .string u1.s, .slice u1.A u1.la u1.lc, .slice u1.F u1.lf u1.fc], .agg #[.string k2, .int .i64 u2.k, .int .i64 u2.n, .string u2.s, .slice u2.A u2.la u2.lc, .slice u2.F u2.lf u2.fc], .pointer (some ⟨Rv, 0, none⟩)] w fun e w' => e = .returned (.int .i64 0) ∧ Below w.heap.size w w' :=
  (ord_any [] k1 k2 u1 u2 Rv Mv Kv b n D K kc w hk1 hk2 H.rank H.rv).mono fun e w' ⟨⟨r1, r2, h1, h2, he⟩, hb⟩ => by
    refine ⟨?_, hb⟩
    rw [he, rank_nil h1, rank_nil h2]
    rfl
set_option maxHeartbeats 1000000 in
set_option maxRecDepth 100000 in
theorem ins_nil (F : Option Addr) (c lo hi : Nat) (ks : List ByteArray) (Rv Mv Kv b n : Nat) (D : DataW Unit) (K : Option Addr) (kc : Nat) (w : World) (H : NilC w Rv Mv Kv b n D K kc F ks) (hn : ks.length ≤ 1000) (hkm : ∀ x ∈ ks, x.size ≤ maxLen) (h1 : lo ≤ hi) (h2 : hi ≤ ks.length) :
    Calls Try.prog 122 #[.slice F ks.length c, .int .i64 lo, .int .i64 hi, cmpV Rv] w fun e w' => e = .returned (.tuple #[]) ∧ Below w.heap.size w w' := by
  go_enter Try.func122, Try.ntmps122
  go_wp2_with fail
  go_loopw [8] (fun iv wr => ∃ i : Nat, iv = .int .i64 i ∧ lo + 1 ≤ i ∧ i ≤ hi + 1 ∧ Below w.heap.size w wr) (fun iv _ => hi + 1 - (intOf iv).toNat)
  case atStart => exact ⟨lo + 1, by go_num, Nat.le_refl _, by omega, Below.refl _ _⟩
  case round =>
    obtain ⟨i, rfl, hi1, hi2, hbel⟩ := hrel
    have HB := Lib.hid hbel
    clear hbel
    by_cases hlt : i < hi
    · obtain ⟨k1, hk1⟩ : ∃ k1, ks[i]? = some k1 := ⟨ks[i]'(by omega), List.getElem?_eq_getElem (by omega)⟩
      obtain ⟨k2, hk2⟩ : ∃ k2, ks[i - 1]? = some k2 := ⟨ks[i - 1]'(by omega), List.getElem?_eq_getElem (by omega)⟩
      have HN := Lib.hid (H.below HB.out)
      obtain ⟨ad, u1, rfl, hbl1, hc1⟩ := HN.out.row i k1 hk1
      obtain ⟨ad2, u2, hF2, hbl2, hc2⟩ := HN.out.row (i - 1) k2 hk2
      obtain rfl : ad = ad2 := Option.some.inj hF2
      obtain ⟨p0, p1, p2, p3, p4, p5⟩ := hc1
      obtain ⟨q0, q1, q2, q3, q4, q5⟩ := hc2
      have hs1 := hkm k1 (List.mem_of_getElem? hk1)
      have hs2 := hkm k2 (List.mem_of_getElem? hk2)
      obtain ⟨z, hz⟩ : ∃ z : Nat, z = i - 1 := ⟨_, rfl⟩
      rw [← hz] at q0 q1 q2 q3 q4 q5
      have hiz : (i : Int) - 1 = (z : Int) := by omega
      have hb1 : (i : Int) < (ks.length : Int) := by omega
      have hb2 : (z : Int) < (ks.length : Int) := by omega
      have hb3 : (lo : Int) < (i : Int) := by omega
      have hwz : IntKind.i64.wrap (z : Int) = (z : Int) := by rw [IntKind.wrap_i64]; omega
      clear hk1 hk2 hF2 hz
      go_wp2_with fail
      refine wp_loop_rounds 1 ?_
      rw [rounds_succ]
      go_wp2_with fail
      go_still_tail 14, (by kernel_rfl)
      change wpList _ _ _ _ _ wr.drew
      have hbd : Below wr.heap.size wr wr.drew := (Below.refl _ _).drew
      generalize wr.drew = w2 at hbd ⊢
      have HBD := Lib.hid hbd
      clear hbd
      go_wp2_with fail
      refine (cmp_nil k1 k2 u1 u2 (HN.out.below HBD.out) hs1 hs2).mono ?_
      rintro e w3 ⟨rfl, hb4⟩
      have HB4 := Lib.hid (HB.out.trans ((HBD.out.trans (hb4.mono HBD.out.size)).mono HB.out.size))
      clear hb4
      go_wp2_with fail
      exact ⟨⟨i + 1, by go_num, by omega, by omega, HB4.out⟩, by simp [intOf]; omega⟩
    · go_wp2_with fail
      go_end0
      exact ⟨rfl, HB.out⟩
end Go.Proofs.Ytmdlcalnncncjaa
