/- Several of the texts that this claim leans on, one behind the other. -/
import Derived.Test.YtmdlcalnncncjaaJoined1PathMerges
import Derived.StillTailTactics
import Derived.Test.YtmdlcalnncncjaaTProgC
import Derived.Deep.RegionHeld3
import Derived.BigRegion
import Derived.Deep.CutRange
import Derived.Test.YtmdlcalnncncjaaPGo
import Derived.Test.YtmdlcalnncncjaaTWithPr
import Derived.Test.YtmdlcalnncncjaaTRight
import Derived.Test.YtmdlcalnncncjaaPFindR
import Derived.Test.YtmdlcalnncncjaaPTgt
/- The stable sort by no keys: nothing is exchanged. The insertion sort. -/
set_option linter.unusedVariables false
set_option linter.unusedSimpArgs false
namespace Go.Proofs.Ytmdlcalnncncjaa
open Go.RowKit
abbrev cmpV (Rv : Nat) : Value := .func (.func 82) #[] #[.pointer (some ⟨Rv, 0, none⟩)]
/-- The comparison by no keys, and the pairs that are sorted. -/
structure NilC (w : World) (Rv Mv Kv b n : Nat) (D : DataW Unit) (K : Option Addr) (kc : Nat) (F : Option Addr) (ks : List ByteArray) : Prop where
  rank : RankAt w Mv Kv [] b n D K kc
  rv : w.cell? ⟨Rv, 0, none⟩ = some (closR Mv Kv)
  row : KeyRow w F ks
theorem NilC.below {w w' : World} {Rv Mv Kv b n : Nat} {D : DataW Unit} {K : Option Addr} {kc : Nat} {F : Option Addr} {ks : List ByteArray} (H : NilC w Rv Mv Kv b n D K kc F ks) (hb : Below w.heap.size w w') : NilC w' Rv Mv Kv b n D K kc F ks :=
  ⟨H.rank.below hb, cur_bel H.rv hb, H.row.below hb (Nat.le_refl _)⟩
theorem rank_nil {k : ByteArray} {r : Int} (h : RankP [] k r) : r = 0 := by
  rcases h with ⟨i, _, h⟩ | ⟨h, _⟩
  · simp at h
  · simpa using h
theorem cmp_nil (k1 k2 : ByteArray) (u1 u2 : Hd) {w : World} {Rv Mv Kv b n : Nat} {D : DataW Unit} {K : Option Addr} {kc : Nat} {F : Option Addr} {ks : List ByteArray} (H : NilC w Rv Mv Kv b n D K kc F ks) (hk1 : k1.size ≤ maxLen) (hk2 : k2.size ≤ maxLen) :
    Calls Try.prog 82 #[.agg #[.string k1, .int .i64 u1.k, .int .i64 u1.n, .string u1.s, .slice u1.A u1.la u1.lc, .slice u1.F u1.lf u1.fc], .agg #[.string k2, .int .i64 u2.k, .int .i64 u2.n, .string u2.s, .slice u2.A u2.la u2.lc, .slice u2.F u2.lf u2.fc], .pointer (some ⟨Rv, 0, none⟩)] w fun e w' => e = .returned (.int .i64 0) ∧ Below w.heap.size w w' :=
  (ord_any [] k1 k2 u1 u2 Rv Mv Kv b n D K kc w hk1 hk2 H.rank H.rv).mono fun e w' ⟨⟨r1, r2, h1, h2, he⟩, hb⟩ => by
    refine ⟨?_, hb⟩
    rw [he, rank_nil h1, rank_nil h2]
    rfl
set_option maxHeartbeats 1000000 in
set_option maxRecDepth 100000 in
theorem ins_nil (F : Option Addr) (c lo hi : Nat) (ks : List ByteArray) (Rv Mv Kv b n : Nat) (D : DataW Unit) (K : Option Addr) (kc : Nat) (w : World) (H : NilC w Rv Mv Kv b n D K kc F ks) (hn : ks.length ≤ 1000) (hkm : ∀ x ∈ ks, x.size ≤ maxLen) (h1 : lo ≤ hi) (h2 : hi ≤ ks.length) :
    Calls Try.prog 122 #[.slice F ks.length c, .int .i64 lo, .int .i64 hi, cmpV Rv] w fun e w' => e = .returned (.tuple #[]) ∧ Below w.heap.size w w' := by
  go_enter Try.func122, Try.ntmps122
  go_wp2_with fail
  go_loopw [8] (fun iv wr => ∃ i : Nat, iv = .int .i64 i ∧ lo + 1 ≤ i ∧ i ≤ hi + 1 ∧ Below w.heap.size w wr) (fun iv _ => hi + 1 - (intOf iv).toNat)
  case atStart => exact ⟨lo + 1, by go_num, Nat.le_refl _, by omega, Below.refl _ _⟩
  case round =>
    obtain ⟨i, rfl, hi1, hi2, hbel⟩ := hrel
    have HB := Lib.hid hbel
    clear hbel
    by_cases hlt : i < hi
    · obtain ⟨k1, hk1⟩ : ∃ k1, ks[i]? = some k1 := ⟨ks[i]'(by omega), List.getElem?_eq_getElem (by omega)⟩
      obtain ⟨k2, hk2⟩ : ∃ k2, ks[i - 1]? = some k2 := ⟨ks[i - 1]'(by omega), List.getElem?_eq_getElem (by omega)⟩
      have HN := Lib.hid (H.below HB.out)
      obtain ⟨ad, u1, rfl, hbl1, hc1⟩ := HN.out.row i k1 hk1
      obtain ⟨ad2, u2, hF2, hbl2, hc2⟩ := HN.out.row (i - 1) k2 hk2
      obtain rfl : ad = ad2 := Option.some.inj hF2
      obtain ⟨p0, p1, p2, p3, p4, p5⟩ := hc1
      obtain ⟨q0, q1, q2, q3, q4, q5⟩ := hc2
      have hs1 := hkm k1 (List.mem_of_getElem? hk1)
      have hs2 := hkm k2 (List.mem_of_getElem? hk2)
      obtain ⟨z, hz⟩ : ∃ z : Nat, z = i - 1 := ⟨_, rfl⟩
      rw [← hz] at q0 q1 q2 q3 q4 q5
      have hiz : (i : Int) - 1 = (z : Int) := by omega
      have hb1 : (i : Int) < (ks.length : Int) := by omega
      have hb2 : (z : Int) < (ks.length : Int) := by omega
      have hb3 : (lo : Int) < (i : Int) := by omega
      have hwz : IntKind.i64.wrap (z : Int) = (z : Int) := by rw [IntKind.wrap_i64]; omega
      clear hk1 hk2 hF2 hz
      go_wp2_with fail
      refine wp_loop_rounds 1 ?_
      rw [rounds_succ]
      go_wp2_with fail
      go_still_tail 14, (by kernel_rfl)
      change wpList _ _ _ _ _ wr.drew
      have hbd : Below wr.heap.size wr wr.drew := (Below.refl _ _).drew
      generalize wr.drew = w2 at hbd ⊢
      have HBD := Lib.hid hbd
      clear hbd
      go_wp2_with fail
      refine (cmp_nil k1 k2 u1 u2 (HN.out.below HBD.out) hs1 hs2).mono ?_
      rintro e w3 ⟨rfl, hb4⟩
      have HB4 := Lib.hid (HB.out.trans ((HBD.out.trans (hb4.mono HBD.out.size)).mono HB.out.size))
      clear hb4
      go_wp2_with fail
      exact ⟨⟨i + 1, by go_num, by omega, by omega, HB4.out⟩, by simp [intOf]; omega⟩
    · go_wp2_with fail
      go_end0
      exact ⟨rfl, HB.out⟩
end Go.Proofs.Ytmdlcalnncncjaa

/- slices.swapRange and rotate, of pairs. -/
set_option linter.unusedVariables false
set_option linter.unusedSimpArgs false
namespace Go.Proofs.Ytmdlcalnncncjaa
open Go.RowKit
/-- A pair that is sorted: its key, its header, the value, its blocks, and its old place. -/
structure Eo where
  key : ByteArray
  u : Hd
  x : Va
  T : Nat → Prop
  ix : Nat
instance : Inhabited Eo := ⟨⟨ByteArray.empty, ⟨0, 0, ByteArray.empty, none, 0, 0, none, 0, 0⟩, .mk 0 0 ByteArray.empty [] [] [], fun _ => False, 0⟩⟩
/-- The row of pairs in block B, and all else as it was. -/
structure Sw (w0 : World) (B : Nat) (d : Array Eo) (wr : World) : Prop where
  kp : Kp B w0 wr
  at_ : ∀ i, i < d.size → At6 wr ⟨B, i * 6, none⟩ d[i]!.key d[i]!.u
  frz : ∀ o, wr.frozen? ⟨B, o, none⟩ = false
  lt : B < w0.heap.size
  key : ∀ i, i < d.size → d[i]!.key.size ≤ maxLen
theorem Sw.go {w0 wr w' : World} {B : Nat} {d : Array Eo} (H : Sw w0 B d wr) (hb : Below wr.heap.size wr w') : Sw w0 B d w' := by
  have h1 := H.kp.size
  have h2 := H.lt
  exact ⟨H.kp.trans (Kp.of_below hb (by omega)), fun i hi => (H.at_ i hi).below hb (by show B < _; omega), fun o => (hb.frozen (p := ⟨B, o, none⟩) (by show B < _; omega)).trans (H.frz o), h2, H.key⟩
/-- A pair's six cells, written. -/
def put6 (w : World) (B o : Nat) (k : ByteArray) (u : Hd) : World := ((((((w.setCell ⟨B, o, none⟩ (.string k)).setCell ⟨B, o + 1, none⟩ (.int .i64 u.k)).setCell ⟨B, o + 2, none⟩ (.int .i64 u.n)).setCell ⟨B, o + 3, none⟩ (.string u.s)).setCell ⟨B, o + 4, none⟩ (.slice u.A u.la u.lc)).setCell ⟨B, o + 5, none⟩ (.slice u.F u.lf u.fc))
theorem put6_blk {w : World} {B o : Nat} {k : ByteArray} {u : Hd} {b : Nat} (h : b ≠ B) : (put6 w B o k u).heap[b]? = w.heap[b]? := by
  unfold put6
  rw [Below.heap_setCell _ _ _ _ h, Below.heap_setCell _ _ _ _ h, Below.heap_setCell _ _ _ _ h, Below.heap_setCell _ _ _ _ h, Below.heap_setCell _ _ _ _ h, Below.heap_setCell _ _ _ _ h]
theorem put6_other {w : World} {B o p : Nat} {k : ByteArray} {u : Hd} (h : p < o ∨ o + 5 < p) : (put6 w B o k u).cell? ⟨B, p, none⟩ = w.cell? ⟨B, p, none⟩ := by
  have hne : ∀ q, q ≤ 5 → (⟨B, o + q, none⟩ : Addr) ≠ ⟨B, p, none⟩ := fun q h2 e => by
    injection e with _ e2
    omega
  have h0 := hne 0 (by omega)
  rw [Nat.add_zero] at h0
  unfold put6
  rw [World.cell?_setCell_other _ _ _ _ (hne 5 (by omega)), World.cell?_setCell_other _ _ _ _ (hne 4 (by omega)), World.cell?_setCell_other _ _ _ _ (hne 3 (by omega)), World.cell?_setCell_other _ _ _ _ (hne 2 (by omega)), World.cell?_setCell_other _ _ _ _ (hne 1 (by omega)), World.cell?_setCell_other _ _ _ _ h0]
theorem put6_frz {w : World} {B o : Nat} {k : ByteArray} {u : Hd} (a : Addr) : (put6 w B o k u).frozen? a = w.frozen? a := by
  unfold put6
  rw [World.frozen?_setCell, World.frozen?_setCell, World.frozen?_setCell, World.frozen?_setCell, World.frozen?_setCell, World.frozen?_setCell]
theorem At6.put {w : World} {B o : Nat} {k k0 : ByteArray} {u u0 : Hd} (h : At6 w ⟨B, o, none⟩ k0 u0) : At6 (put6 w B o k u) ⟨B, o, none⟩ k u := by
  obtain ⟨h0, h1, h2, h3, h4, h5⟩ := h
  simp only at h0 h1 h2 h3 h4 h5
  unfold put6 At6
  refine ⟨?_, ?_, ?_, ?_, ?_, ?_⟩
  · rw [World.cell?_setCell_other _ _ _ _ (by simp), World.cell?_setCell_other _ _ _ _ (by simp), World.cell?_setCell_other _ _ _ _ (by simp), World.cell?_setCell_other _ _ _ _ (by simp), World.cell?_setCell_other _ _ _ _ (by simp)]
    exact World.cell?_setCell_same _ _ _ h0
  · rw [World.cell?_setCell_other _ _ _ _ (by simp), World.cell?_setCell_other _ _ _ _ (by simp), World.cell?_setCell_other _ _ _ _ (by simp), World.cell?_setCell_other _ _ _ _ (by simp)]
    exact World.cell?_setCell_same _ _ _ (by rw [World.cell?_setCell_other _ _ _ _ (by simp)]; exact h1)
  · rw [World.cell?_setCell_other _ _ _ _ (by simp), World.cell?_setCell_other _ _ _ _ (by simp), World.cell?_setCell_other _ _ _ _ (by simp)]
    exact World.cell?_setCell_same _ _ _ (by rw [World.cell?_setCell_other _ _ _ _ (by simp), World.cell?_setCell_other _ _ _ _ (by simp)]; exact h2)
  · rw [World.cell?_setCell_other _ _ _ _ (by simp), World.cell?_setCell_other _ _ _ _ (by simp)]
    exact World.cell?_setCell_same _ _ _ (by rw [World.cell?_setCell_other _ _ _ _ (by simp), World.cell?_setCell_other _ _ _ _ (by simp), World.cell?_setCell_other _ _ _ _ (by simp)]; exact h3)
  · rw [World.cell?_setCell_other _ _ _ _ (by simp)]
    exact World.cell?_setCell_same _ _ _ (by rw [World.cell?_setCell_other _ _ _ _ (by simp), World.cell?_setCell_other _ _ _ _ (by simp), World.cell?_setCell_other _ _ _ _ (by simp), World.cell?_setCell_other _ _ _ _ (by simp)]; exact h4)
  · exact World.cell?_setCell_same _ _ _ (by rw [World.cell?_setCell_other _ _ _ _ (by simp), World.cell?_setCell_other _ _ _ _ (by simp), World.cell?_setCell_other _ _ _ _ (by simp), World.cell?_setCell_other _ _ _ _ (by simp), World.cell?_setCell_other _ _ _ _ (by simp)]; exact h5)
theorem At6.put_other {w : World} {B o p : Nat} {k k0 : ByteArray} {u u0 : Hd} (h : At6 w ⟨B, p, none⟩ k0 u0) (hp : p + 5 < o ∨ o + 5 < p) : At6 (put6 w B o k u) ⟨B, p, none⟩ k0 u0 := by
  obtain ⟨h0, h1, h2, h3, h4, h5⟩ := h
  simp only at h0 h1 h2 h3 h4 h5
  exact ⟨(put6_other (by omega)).trans h0, (put6_other (p := p + 1) (by omega)).trans h1, (put6_other (p := p + 2) (by omega)).trans h2, (put6_other (p := p + 3) (by omega)).trans h3, (put6_other (p := p + 4) (by omega)).trans h4, (put6_other (p := p + 5) (by omega)).trans h5⟩
theorem Kp.put6 {w0 w : World} {B o : Nat} {k : ByteArray} {u : Hd} (h : Kp B w0 w) : Kp B w0 (put6 w B o k u) := (((((h.setN _).setN _).setN _).setN _).setN _).setN _
/-- Two pairs exchanged. -/
theorem Sw.swap0 {w0 wr : World} {B p q : Nat} {d : Array Eo} {k1 k2 : ByteArray} {u1 u2 : Hd} (H : Sw w0 B d wr) (hp : p < d.size) (hq : q < d.size) (hpq : p ≠ q) (he : k1 = d[p]!.key ∧ u1 = d[p]!.u ∧ k2 = d[q]!.key ∧ u2 = d[q]!.u) :
    Sw w0 B (Go.Sort.swp d p q) (Proofs.Ytmdlcalnncncjaa.put6 (Proofs.Ytmdlcalnncncjaa.put6 wr B (p * 6) k2 u2) B (q * 6) k1 u1) := by
  obtain ⟨e1, e2, e3, e4⟩ := he
  have h1 := H.kp
  have h2 := H.frz
  have h3 := H.lt
  have h := H.at_
  have h4 := H.key
  clear H
  refine ⟨h1.put6.put6, fun i hi => ?_, fun o => by rw [put6_frz, put6_frz]; exact h2 o, h3, fun i hi => ?_⟩
  rotate_left
  · rw [Go.Sort.size_swp] at hi
    by_cases a1 : i = q
    · subst a1; rw [Go.Sort.swp_right _ _ _ hq]; exact h4 p hp
    · by_cases a2 : i = p
      · subst a2; rw [Go.Sort.swp_left _ _ _ hp hpq]; exact h4 q hq
      · rw [Go.Sort.swp_other _ _ _ _ a2 a1]; exact h4 i hi
  rw [Go.Sort.size_swp] at hi
  have h := h i hi
  by_cases a1 : i = q
  · subst a1
    rw [Go.Sort.swp_right _ _ _ hq, ← e1, ← e2]
    exact At6.put (At6.put_other h (by omega))
  · by_cases a2 : i = p
    · subst a2
      rw [Go.Sort.swp_left _ _ _ hp hpq, ← e3, ← e4]
      exact At6.put_other (At6.put h) (by omega)
    · rw [Go.Sort.swp_other _ _ _ _ a2 a1]
      exact At6.put_other (At6.put_other h (by omega)) (by omega)
theorem Sw.swap {w0 wr : World} {B p q : Nat} {d : Array Eo} {k1 k2 : ByteArray} {u1 u2 : Hd} (H : Sw w0 B d wr) (hp : p < d.size) (hq : q < d.size) (hpq : p ≠ q) (he : k1 = d[p]!.key ∧ u1 = d[p]!.u ∧ k2 = d[q]!.key ∧ u2 = d[q]!.u) :
    Sw w0 B (Go.Sort.swp d p q) (Proofs.Ytmdlcalnncncjaa.put6 (Proofs.Ytmdlcalnncncjaa.put6 wr B (p * 6) k2 u2) B (q * 6) k1 u1).drew := (H.swap0 hp hq hpq he).go ((Below.refl _ _).drew)
set_option maxHeartbeats 2000000 in
set_option maxRecDepth 100000 in
theorem swapRange_any (w0 : World) (B N c a b n : Nat) (cv : Value) (d : Array Eo) (w : World) (H : Sw w0 B d w) (hN : N = d.size) (h1 : N ≤ 1000) (h2 : a + n ≤ b) (h3 : b + n ≤ N) :
    Calls Try.prog 145 #[.slice (some ⟨B, 0, none⟩) N c, .int .i64 a, .int .i64 b, .int .i64 n, cv] w fun e w' => e = .returned (.tuple #[]) ∧ ∃ d', Sw w0 B d' w' ∧ St.Swd d d' a b n ∧ Go.Sort.PermIn a (b + n) d d' := by
  have HN := Lib.hid hN
  have HH := Lib.hid H
  clear H hN
  go_enter Try.func145, Try.ntmps145
  go_wp2_with fail
  go_loopw [10] (fun iv wr => ∃ (i : Nat) (d' : Array Eo), iv = .int .i64 i ∧ i ≤ n ∧ Sw w0 B d' wr ∧ St.Swd d d' a b i ∧ Go.Sort.PermIn a (b + n) d d') (fun iv _ => n - (intOf iv).toNat)
  case atStart => exact ⟨0, d, rfl, Nat.zero_le _, HH.out, St.Swd.zero _ _ _, Go.Sort.permIn_refl _ _ _⟩
  case round =>
    obtain ⟨i, d', rfl, hi, hS, hD, hP⟩ := hrel
    have HS := Lib.hid hS
    have HD := Lib.hid hD
    have HP := Lib.hid hP
    have HSZ : Hid (N = d'.size) := Lib.hid (by rw [hD.1]; exact HN.out)
    clear hD hP
    by_cases hlt : i < n
    · obtain ⟨p, hp⟩ : ∃ p : Nat, p = a + i := ⟨_, rfl⟩
      obtain ⟨q, hq⟩ : ∃ q : Nat, q = b + i := ⟨_, rfl⟩
      have e1 : (a : Int) + (i : Int) = (p : Int) := by omega
      have e2 : (b : Int) + (i : Int) = (q : Int) := by omega
      have hpN : (p : Int) < (N : Int) := by omega
      have hqN : (q : Int) < (N : Int) := by omega
      obtain ⟨x0, x1, x2, x3, x4, x5⟩ := hS.at_ p (by have := HSZ.out; omega)
      obtain ⟨y0, y1, y2, y3, y4, y5⟩ := hS.at_ q (by have := HSZ.out; omega)
      obtain ⟨k1, hk1⟩ : ∃ k, k = d'[p]!.key := ⟨_, rfl⟩
      obtain ⟨u1, hu1⟩ : ∃ k, k = d'[p]!.u := ⟨_, rfl⟩
      obtain ⟨k2, hk2⟩ : ∃ k, k = d'[q]!.key := ⟨_, rfl⟩
      obtain ⟨u2, hu2⟩ : ∃ k, k = d'[q]!.u := ⟨_, rfl⟩
      rw [← hk1] at x0
      rw [← hu1] at x1 x2 x3 x4 x5
      rw [← hk2] at y0
      rw [← hu2] at y1 y2 y3 y4 y5
      have HE := Lib.hid (show k1 = d'[p]!.key ∧ u1 = d'[p]!.u ∧ k2 = d'[q]!.key ∧ u2 = d'[q]!.u from ⟨hk1, hu1, hk2, hu2⟩)
      clear hk1 hu1 hk2 hu2
      have HPQ := Lib.hid (show p = a + i ∧ q = b + i from ⟨hp, hq⟩)
      have hf := hS.frz
      clear hS hp hq
      go_wp2_with fail
      go_region
      have hs2 : Sw w0 B (Go.Sort.swp d' p q) ((((((((((((wr.setCell ⟨B, p * 6, none⟩ (.string k2)).setCell ⟨B, p * 6 + 1, none⟩ (.int .i64 u2.k)).setCell ⟨B, p * 6 + 2, none⟩ (.int .i64 u2.n)).setCell ⟨B, p * 6 + 3, none⟩ (.string u2.s)).setCell ⟨B, p * 6 + 4, none⟩ (.slice u2.A u2.la u2.lc)).setCell ⟨B, p * 6 + 5, none⟩ (.slice u2.F u2.lf u2.fc)).setCell ⟨B, q * 6, none⟩ (.string k1)).setCell ⟨B, q * 6 + 1, none⟩ (.int .i64 u1.k)).setCell ⟨B, q * 6 + 2, none⟩ (.int .i64 u1.n)).setCell ⟨B, q * 6 + 3, none⟩ (.string u1.s)).setCell ⟨B, q * 6 + 4, none⟩ (.slice u1.A u1.la u1.lc)).setCell ⟨B, q * 6 + 5, none⟩ (.slice u1.F u1.lf u1.fc)).drew := HS.out.swap (by have := HSZ.out; omega) (by have := HSZ.out; omega) (by have := HPQ.out; omega) HE.out
      generalize ((((((((((((wr.setCell ⟨B, p * 6, none⟩ (.string k2)).setCell ⟨B, p * 6 + 1, none⟩ (.int .i64 u2.k)).setCell ⟨B, p * 6 + 2, none⟩ (.int .i64 u2.n)).setCell ⟨B, p * 6 + 3, none⟩ (.string u2.s)).setCell ⟨B, p * 6 + 4, none⟩ (.slice u2.A u2.la u2.lc)).setCell ⟨B, p * 6 + 5, none⟩ (.slice u2.F u2.lf u2.fc)).setCell ⟨B, q * 6, none⟩ (.string k1)).setCell ⟨B, q * 6 + 1, none⟩ (.int .i64 u1.k)).setCell ⟨B, q * 6 + 2, none⟩ (.int .i64 u1.n)).setCell ⟨B, q * 6 + 3, none⟩ (.string u1.s)).setCell ⟨B, q * 6 + 4, none⟩ (.slice u1.A u1.la u1.lc)).setCell ⟨B, q * 6 + 5, none⟩ (.slice u1.F u1.lf u1.fc)).drew = w2 at hs2 ⊢
      have HS2 := Lib.hid hs2
      clear hs2
      go_wp2_with fail
      refine ⟨⟨i + 1, Go.Sort.swp d' p q, by go_num, by omega, HS2.out, ?_, ?_⟩, by simp [intOf]; omega⟩
      · rw [HPQ.out.1, HPQ.out.2]
        exact HD.out.step hlt h2 (by have := HN.out; omega)
      · refine Go.Sort.permIn_trans _ _ _ _ _ HP.out (Go.Sort.swp_permIn _ _ _ _ _ ?_ ?_ ?_ ?_ ?_)
        all_goals (have h8 := HPQ.out; have h9 := HSZ.out; omega)
    · obtain rfl : i = n := by omega
      go_wp2_with fail
      go_end0
      exact ⟨rfl, d', HS.out, HD.out, HP.out⟩
set_option maxHeartbeats 2000000 in
set_option maxRecDepth 100000 in
theorem rotate_any (w0 : World) (B N c a m b : Nat) (cv : Value) (d : Array Eo) (w : World) (H : Sw w0 B d w) (hN : N = d.size) (h1 : N ≤ 1000) (h2 : a < m) (h3 : m < b) (h4 : b ≤ N) :
    Calls Try.prog 137 #[.slice (some ⟨B, 0, none⟩) N c, .int .i64 a, .int .i64 m, .int .i64 b, cv] w fun e w' => e = .returned (.tuple #[]) ∧ ∃ d', Sw w0 B d' w' ∧ St.Rot d d' a m b ∧ Go.Sort.PermIn a b d d' := by
  have HN := Lib.hid hN
  have HH := Lib.hid H
  clear H hN
  go_enter Try.func137, Try.ntmps137
  go_wp2_with fail
  go_loopw [10, 11] (fun iv jv wr => ∃ (i j : Nat) (d' : Array Eo), iv = .int .i64 i ∧ jv = .int .i64 j ∧ i ≤ 1000 ∧ j ≤ 1000 ∧ Sw w0 B d' wr ∧ St.Win d d' a m b i j ∧ Go.Sort.PermIn a b d d') (fun iv jv _ => (intOf iv).toNat + (intOf jv).toNat)
  case atStart => exact ⟨m - a, b - m, d, by go_num, by go_num, by omega, by omega, HH.out, St.Win.start h2 h3, Go.Sort.permIn_refl _ _ _⟩
  case round =>
    obtain ⟨i, j, d', rfl, rfl, hi, hj, hS, hD, hP⟩ := hrel
    have HS := Lib.hid hS
    have HD := Lib.hid hD
    have HP := Lib.hid hP
    have HSZ : Hid (N = d'.size) := Lib.hid (by rw [hD.1]; exact HN.out)
    obtain ⟨-, b1, b2, b3, b4, b5, -⟩ := hD
    clear hS hP
    have em : (m : Int) - (i : Int) = ((m - i : Nat) : Int) := by omega
    obtain ⟨s, hs⟩ : ∃ s : Nat, s = m - i := ⟨_, rfl⟩
    rw [← hs] at em b1
    have HSS := Lib.hid hs
    by_cases hij : i = j
    · have hij' : ((i : Int) == (j : Int)) = true := by simp; omega
      have K := Lib.hid (swapRange_any w0 B N c s m i cv d' wr HS.out HSZ.out h1 (by omega) (by omega))
      have HIJ := Lib.hid hij
      clear hs hij
      go_wp2_with fail
      refine K.out.mono ?_
      rintro e w1 ⟨rfl, d2, hs2, hd2, hp2⟩
      have HS2 := Lib.hid hs2
      have HF : Hid (St.Rot d d2 a m b) := Lib.hid (by have h8 := HD.out; rw [← HIJ.out] at h8; exact h8.done (by rw [HSS.out] at hd2; exact hd2))
      have HP2 : Hid (Go.Sort.PermIn a b d d2) := Lib.hid (Go.Sort.permIn_trans _ _ _ _ _ HP.out (Go.Sort.permIn_mono _ _ _ _ _ _ (by omega) (by have := HIJ.out; omega) (by have := HSZ.out; omega) hp2))
      clear hs2 hd2 hp2 K
      go_wp2_with fail
      go_end0
      exact ⟨rfl, d2, HS2.out, HF.out, HP2.out⟩
    · have hij' : ((i : Int) == (j : Int)) = false := by simp; omega
      by_cases hgt : j < i
      · have K := Lib.hid (swapRange_any w0 B N c s m j cv d' wr HS.out HSZ.out h1 (by omega) (by omega))
        have ei : (i : Int) - (j : Int) = ((i - j : Nat) : Int) := by omega
        clear hs hij
        go_wp2_with fail
        refine K.out.mono ?_
        rintro e w1 ⟨rfl, d2, hs2, hd2, hp2⟩
        have HS2 := Lib.hid hs2
        have HF : Hid (St.Win d d2 a m b (i - j) j) := Lib.hid (HD.out.left hgt (by rw [HSS.out] at hd2; exact hd2))
        have HP2 : Hid (Go.Sort.PermIn a b d d2) := Lib.hid (Go.Sort.permIn_trans _ _ _ _ _ HP.out (Go.Sort.permIn_mono _ _ _ _ _ _ (by omega) (by omega) (by have := HSZ.out; omega) hp2))
        clear hs2 hd2 hp2 K
        go_wp2_with fail
        exact ⟨⟨i - j, j, d2, by go_num, rfl, by omega, hj, HS2.out, HF.out, HP2.out⟩, by simp [intOf]; omega⟩
      · obtain ⟨t, ht⟩ : ∃ t : Nat, t = m + j - i := ⟨_, rfl⟩
        have et : (m : Int) + (j : Int) - (i : Int) = (t : Int) := by omega
        have K := Lib.hid (swapRange_any w0 B N c s t i cv d' wr HS.out HSZ.out h1 (by omega) (by omega))
        have HT := Lib.hid ht
        have ej : (j : Int) - (i : Int) = ((j - i : Nat) : Int) := by omega
        have hlt2 : i < j := by omega
        clear hs hij ht
        go_wp2_with fail
        refine K.out.mono ?_
        rintro e w1 ⟨rfl, d2, hs2, hd2, hp2⟩
        have HS2 := Lib.hid hs2
        have HF : Hid (St.Win d d2 a m b i (j - i)) := Lib.hid (HD.out.right hlt2 (by rw [HSS.out, HT.out] at hd2; exact hd2))
        have HP2 : Hid (Go.Sort.PermIn a b d d2) := Lib.hid (Go.Sort.permIn_trans _ _ _ _ _ HP.out (Go.Sort.permIn_mono _ _ _ _ _ _ (by omega) (by have := HT.out; omega) (by have := HSZ.out; omega) hp2))
        clear hs2 hd2 hp2 K
        go_wp2_with fail
        exact ⟨⟨i, j - i, d2, rfl, by go_num, hi, by omega, HS2.out, HF.out, HP2.out⟩, by simp [intOf]; omega⟩
end Go.Proofs.Ytmdlcalnncncjaa

/- symMerge of pairs: one element against a run. -/
set_option linter.unusedVariables false
set_option linter.unusedSimpArgs false
namespace Go.Proofs.Ytmdlcalnncncjaa
open Go.RowKit
/-- What is asked of the comparison. -/
def CmpOk (w0 : World) (B Rv : Nat) (rk : ByteArray → Int) : Prop := ∀ wr, Kp B w0 wr → ∀ (k1 k2 : ByteArray) (u1 u2 : Hd), k1.size ≤ maxLen → k2.size ≤ maxLen →
  Calls Try.prog 82 #[.agg #[.string k1, .int .i64 u1.k, .int .i64 u1.n, .string u1.s, .slice u1.A u1.la u1.lc, .slice u1.F u1.lf u1.fc], .agg #[.string k2, .int .i64 u2.k, .int .i64 u2.n, .string u2.s, .slice u2.A u2.la u2.lc, .slice u2.F u2.lf u2.fc], .pointer (some ⟨Rv, 0, none⟩)] wr fun e w' => e = .returned (.int .i64 (cmpI (rk k1) (rk k2))) ∧ Below wr.heap.size wr w'
abbrev rkE (rk : ByteArray → Int) (e : Eo) : Int := rk e.key
theorem cmpI_lt (x y : Int) : cmpI x y < 0 ↔ x < y := by
  unfold cmpI
  split
  · simp_all
  · split <;> simp_all
/-- Two runs, the first one older. -/
structure Pre (rk : ByteArray → Int) (N : Nat) (d : Array Eo) (a m bb : Nat) : Prop where
  n : N = d.size
  am : a < m
  mb : m < bb
  bn : bb ≤ N
  nb : N ≤ 1000
  s1 : St.Srt (rkE rk) Eo.ix d a m
  s2 : St.Srt (rkE rk) Eo.ix d m bb
  old : St.Old Eo.ix d a m bb
set_option maxHeartbeats 4000000 in
set_option maxRecDepth 100000 in
theorem merge_one (w0 : World) (B N c a m bb Rv : Nat) (rk : ByteArray → Int) (d : Array Eo) (w : World) (H : Sw w0 B d w) (hC : CmpOk w0 B Rv rk) (hP : Pre rk N d a m bb) (h1 : m = a + 1) :
    Calls Try.prog 123 #[.slice (some ⟨B, 0, none⟩) N c, .int .i64 a, .int .i64 m, .int .i64 bb, cmpV Rv] w fun e w' => e = .returned (.tuple #[]) ∧ ∃ d', Sw w0 B d' w' ∧ St.Mrg (rkE rk) Eo.ix d d' a bb := by
  have hma : ((m : Int) - (a : Int) == 1) = true := by simp; omega
  have hma2 : (m : Int) - (a : Int) = 1 := by omega
  have HP := Lib.hid hP
  have HH := Lib.hid H
  have HN := Lib.hid hP.n
  have h2 := hP.mb
  have h3 := hP.bn
  have h4 := hP.nb
  have ham : a < m := by omega
  have HM := Lib.hid h1
  clear h1 H hP
  go_enter Try.func123, Try.ntmps123
  go_wp2_with fail
  go_loopw [10, 11] (fun iv jv wr => ∃ i j : Nat, iv = .int .i64 i ∧ jv = .int .i64 j ∧ m ≤ i ∧ i ≤ j ∧ j ≤ bb ∧ Sw w0 B d wr ∧ St.Fnd1 (rkE rk) Eo.ix d a m bb i j) (fun iv jv _ => (intOf jv).toNat - (intOf iv).toNat)
  case atStart => exact ⟨m, bb, rfl, rfl, Nat.le_refl _, by omega, Nat.le_refl _, HH.out, St.Fnd1.start (by omega)⟩
  case round =>
    obtain ⟨i, j, rfl, rfl, hi, hij, hj, hS, hF⟩ := hrel
    have HS := Lib.hid hS
    have HF := Lib.hid hF
    clear hS hF
    by_cases hlt : i < j
    · obtain ⟨hh, hhe⟩ : ∃ hh : Nat, hh = (i + j) / 2 := ⟨_, rfl⟩
      have hh1 : i ≤ hh := by omega
      have hh2 : hh < j := by omega
      have hdv : ((i : Int) + (j : Int)) / 2 = (hh : Int) := by omega
      clear hhe
      obtain ⟨p0, p1, p2, p3, p4, p5⟩ := HS.out.at_ hh (by have := HN.out; omega)
      obtain ⟨q0, q1, q2, q3, q4, q5⟩ := HS.out.at_ a (by have := HN.out; omega)
      have HKS := Lib.hid (show d[hh]!.key.size ≤ maxLen ∧ d[a]!.key.size ≤ maxLen from ⟨HS.out.key _ (by have := HN.out; omega), HS.out.key _ (by have := HN.out; omega)⟩)
      obtain ⟨z, hz⟩ : ∃ z, z = cmpI (rk d[hh]!.key) (rk d[a]!.key) := ⟨_, rfl⟩
      have HZ := Lib.hid (show z < 0 ↔ rkE rk d[hh]! < rkE rk d[a]! from by rw [hz]; exact cmpI_lt _ _)
      have KC := Lib.hid (show ∀ wx, Below wr.heap.size wr wx → Calls Try.prog 82 #[.agg #[.string d[hh]!.key, .int .i64 d[hh]!.u.k, .int .i64 d[hh]!.u.n, .string d[hh]!.u.s, .slice d[hh]!.u.A d[hh]!.u.la d[hh]!.u.lc, .slice d[hh]!.u.F d[hh]!.u.lf d[hh]!.u.fc], .agg #[.string d[a]!.key, .int .i64 d[a]!.u.k, .int .i64 d[a]!.u.n, .string d[a]!.u.s, .slice d[a]!.u.A d[a]!.u.la d[a]!.u.lc, .slice d[a]!.u.F d[a]!.u.lf d[a]!.u.fc], .pointer (some ⟨Rv, 0, none⟩)] wx fun e w' => e = .returned (.int .i64 z) ∧ Below wx.heap.size wx w' from fun wx hb => by rw [hz]; exact hC wx (HS.out.go hb).kp _ _ _ _ HKS.out.1 HKS.out.2)
      generalize d[hh]!.key = k1 at p0 KC
      generalize d[hh]!.u = u1 at p1 p2 p3 p4 p5 KC
      generalize d[a]!.key = k2 at q0 KC
      generalize d[a]!.u = u2 at q1 q2 q3 q4 q5 KC
      have hb1 : (hh : Int) < (N : Int) := by omega
      have hb2 : (a : Int) < (N : Int) := by omega
      clear hz
      go_wp2_with fail
      go_still_tail 9, (by kernel_rfl)
      change wpList _ _ _ _ _ wr.drew
      have hbd : Below wr.heap.size wr wr.drew := (Below.refl _ _).drew
      generalize wr.drew = w2 at hbd ⊢
      have HBD := Lib.hid hbd
      clear hbd
      go_wp2_with fail
      refine (KC.out w2 HBD.out).mono ?_
      rintro e w3 ⟨rfl, hb4⟩
      have HS3 := Lib.hid (HS.out.go (HBD.out.trans (hb4.mono HBD.out.size)))
      clear hb4 KC p0 p1 p2 p3 p4 p5 q0 q1 q2 q3 q4 q5
      by_cases hzn : z < 0
      · have hzd : decide (z < 0) = true := decide_eq_true hzn
        have HF2 := Lib.hid (HF.out.yes hh1 hh2 (St.le_of_lt (HZ.out.1 hzn)))
        go_wp2_with fail
        exact ⟨⟨hh + 1, j, by go_num, rfl, by omega, by omega, hj, HS3.out, HF2.out⟩, by simp [intOf]; omega⟩
      · have hzd : decide (z < 0) = false := decide_eq_false hzn
        have HF2 := Lib.hid (HF.out.no hh1 hh2 (St.le_of_not (fun h => hzn (HZ.out.2 h)) (HP.out.old a hh (Nat.le_refl _) (by omega) (by omega) (by omega))))
        go_wp2_with fail
        exact ⟨⟨i, hh, rfl, rfl, hi, by omega, by omega, HS3.out, HF2.out⟩, by simp [intOf]; omega⟩
    · obtain rfl : i = j := by omega
      have ei : (i : Int) - 1 = ((i - 1 : Nat) : Int) := by omega
      obtain ⟨t, ht⟩ : ∃ t : Nat, t = i - 1 := ⟨_, rfl⟩
      rw [← ht] at ei
      have HT := Lib.hid ht
      have hta : a ≤ t := by omega
      have htN : t < N := by omega
      clear ht
      go_wp2_with fail
      go_loopw [13] (fun kv wr => ∃ (k : Nat) (dk : Array Eo), kv = .int .i64 k ∧ a ≤ k ∧ k ≤ t ∧ Sw w0 B dk wr ∧ St.Rot d dk a (a + 1) (k + 1) ∧ Go.Sort.PermIn a bb d dk) (fun kv _ => N - (intOf kv).toNat)
      case atStart => exact ⟨a, d, rfl, Nat.le_refl _, hta, HS.out, St.Rot.nil (.inr rfl) (by omega) (by omega), Go.Sort.permIn_refl _ _ _⟩
      case round =>
        obtain ⟨k, dk, rfl, hka, hkt, hS, hR, hQ⟩ := hrel
        have HS := Lib.hid hS
        have HR := Lib.hid hR
        have HQ := Lib.hid hQ
        have HSZ : Hid (N = dk.size) := Lib.hid (by rw [hR.1]; exact HN.out)
        clear hS hR hQ
        by_cases hkl : k < t
        · obtain ⟨q, hq⟩ : ∃ q : Nat, q = k + 1 := ⟨_, rfl⟩
          have e2 : (k : Int) + 1 = (q : Int) := by omega
          have hpN : (k : Int) < (N : Int) := by omega
          have hqN : (q : Int) < (N : Int) := by omega
          have HPQ := Lib.hid hq
          have hqt : q ≤ t := by omega
          have hkq : k < q := by omega
          clear hq
          obtain ⟨x0, x1, x2, x3, x4, x5⟩ := HS.out.at_ k (by have := HSZ.out; omega)
          obtain ⟨y0, y1, y2, y3, y4, y5⟩ := HS.out.at_ q (by have := HSZ.out; omega)
          obtain ⟨k1, hk1⟩ : ∃ kk, kk = dk[k]!.key := ⟨_, rfl⟩
          obtain ⟨u1, hu1⟩ : ∃ kk, kk = dk[k]!.u := ⟨_, rfl⟩
          obtain ⟨k2, hk2⟩ : ∃ kk, kk = dk[q]!.key := ⟨_, rfl⟩
          obtain ⟨u2, hu2⟩ : ∃ kk, kk = dk[q]!.u := ⟨_, rfl⟩
          rw [← hk1] at x0
          rw [← hu1] at x1 x2 x3 x4 x5
          rw [← hk2] at y0
          rw [← hu2] at y1 y2 y3 y4 y5
          have HE := Lib.hid (show k1 = dk[k]!.key ∧ u1 = dk[k]!.u ∧ k2 = dk[q]!.key ∧ u2 = dk[q]!.u from ⟨hk1, hu1, hk2, hu2⟩)
          clear hk1 hu1 hk2 hu2
          have hf := HS.out.frz
          go_wp2_with fail
          go_region
          have hs2 : Sw w0 B (Go.Sort.swp dk k q) ((((((((((((wr.setCell ⟨B, k * 6, none⟩ (.string k2)).setCell ⟨B, k * 6 + 1, none⟩ (.int .i64 u2.k)).setCell ⟨B, k * 6 + 2, none⟩ (.int .i64 u2.n)).setCell ⟨B, k * 6 + 3, none⟩ (.string u2.s)).setCell ⟨B, k * 6 + 4, none⟩ (.slice u2.A u2.la u2.lc)).setCell ⟨B, k * 6 + 5, none⟩ (.slice u2.F u2.lf u2.fc)).setCell ⟨B, q * 6, none⟩ (.string k1)).setCell ⟨B, q * 6 + 1, none⟩ (.int .i64 u1.k)).setCell ⟨B, q * 6 + 2, none⟩ (.int .i64 u1.n)).setCell ⟨B, q * 6 + 3, none⟩ (.string u1.s)).setCell ⟨B, q * 6 + 4, none⟩ (.slice u1.A u1.la u1.lc)).setCell ⟨B, q * 6 + 5, none⟩ (.slice u1.F u1.lf u1.fc)).drew := HS.out.swap (by have := HSZ.out; omega) (by have := HSZ.out; omega) (by omega) HE.out
          generalize ((((((((((((wr.setCell ⟨B, k * 6, none⟩ (.string k2)).setCell ⟨B, k * 6 + 1, none⟩ (.int .i64 u2.k)).setCell ⟨B, k * 6 + 2, none⟩ (.int .i64 u2.n)).setCell ⟨B, k * 6 + 3, none⟩ (.string u2.s)).setCell ⟨B, k * 6 + 4, none⟩ (.slice u2.A u2.la u2.lc)).setCell ⟨B, k * 6 + 5, none⟩ (.slice u2.F u2.lf u2.fc)).setCell ⟨B, q * 6, none⟩ (.string k1)).setCell ⟨B, q * 6 + 1, none⟩ (.int .i64 u1.k)).setCell ⟨B, q * 6 + 2, none⟩ (.int .i64 u1.n)).setCell ⟨B, q * 6 + 3, none⟩ (.string u1.s)).setCell ⟨B, q * 6 + 4, none⟩ (.slice u1.A u1.la u1.lc)).setCell ⟨B, q * 6 + 5, none⟩ (.slice u1.F u1.lf u1.fc)).drew = w2 at hs2 ⊢
          have HS2 := Lib.hid hs2
          clear hs2 hf x0 x1 x2 x3 x4 x5 y0 y1 y2 y3 y4 y5
          go_wp2_with fail
          refine ⟨⟨q, Go.Sort.swp dk k q, by go_num, by omega, hqt, HS2.out, ?_, ?_⟩, by simp [intOf]; omega⟩
          · have h8 := HR.out.up (by omega) (by have := HN.out; omega)
            rw [HPQ.out]
            simpa using h8
          · refine Go.Sort.permIn_trans _ _ _ _ _ HQ.out (Go.Sort.swp_permIn _ _ _ _ _ ?_ ?_ ?_ ?_ ?_)
            all_goals (have h9 := HSZ.out; have h10 := HT.out; omega)
        · obtain rfl : k = t := by omega
          have HFIN : Hid (St.Mrg (rkE rk) Eo.ix d dk a bb) := Lib.hid (by
            have h10 := HT.out
            have h8 := HR.out
            rw [show k + 1 = i by omega, ← HM.out] at h8
            refine St.Mrg.of_ins h8 HQ.out (Nat.le_refl _) (by omega) (by omega) (by omega) HP.out.s1 HP.out.s2 HP.out.old (fun h _ => by omega) (fun h _ => HF.out.2.2.2.1 (by omega)) (fun _ h => ?_) (fun h _ => by omega)
            rw [show m - 1 = a by have := HM.out; omega]
            exact HF.out.2.2.2.2 h)
          go_wp2_with fail
          refine bodyPost_ret (results_none rfl _ _ _) rfl ?_
          exact ⟨rfl, dk, HS.out, HFIN.out⟩
set_option maxHeartbeats 4000000 in
set_option maxRecDepth 100000 in
theorem merge_two (w0 : World) (B N c a m bb Rv : Nat) (rk : ByteArray → Int) (d : Array Eo) (w : World) (H : Sw w0 B d w) (hC : CmpOk w0 B Rv rk) (hP : Pre rk N d a m bb) (h1 : a + 1 < m) (h2 : bb = m + 1) :
    Calls Try.prog 123 #[.slice (some ⟨B, 0, none⟩) N c, .int .i64 a, .int .i64 m, .int .i64 bb, cmpV Rv] w fun e w' => e = .returned (.tuple #[]) ∧ ∃ d', Sw w0 B d' w' ∧ St.Mrg (rkE rk) Eo.ix d d' a bb := by
  have hma : ((m : Int) - (a : Int) == 1) = false := by simp; omega
  have hmb : ((bb : Int) - (m : Int) == 1) = true := by simp; omega
  have hmb2 : (bb : Int) - (m : Int) = 1 := by omega
  have HP := Lib.hid hP
  have HH := Lib.hid H
  have HN := Lib.hid hP.n
  have h3 := hP.bn
  have h4 := hP.nb
  have hmbb : m < bb := by omega
  have HM := Lib.hid h2
  clear h2 H hP
  go_enter Try.func123, Try.ntmps123
  go_wp2_with fail
  go_loopw [14, 15] (fun iv jv wr => ∃ i j : Nat, iv = .int .i64 i ∧ jv = .int .i64 j ∧ a ≤ i ∧ i ≤ j ∧ j ≤ m ∧ Sw w0 B d wr ∧ St.Fnd1 (rkE rk) Eo.ix d m a m i j) (fun iv jv _ => (intOf jv).toNat - (intOf iv).toNat)
  case atStart => exact ⟨a, m, rfl, rfl, Nat.le_refl _, by omega, Nat.le_refl _, HH.out, St.Fnd1.start (by omega)⟩
  case round =>
    obtain ⟨i, j, rfl, rfl, hi, hij, hj, hS, hF⟩ := hrel
    have HS := Lib.hid hS
    have HF := Lib.hid hF
    clear hS hF
    by_cases hlt : i < j
    · obtain ⟨hh, hhe⟩ : ∃ hh : Nat, hh = (i + j) / 2 := ⟨_, rfl⟩
      have hh1 : i ≤ hh := by omega
      have hh2 : hh < j := by omega
      have hdv : ((i : Int) + (j : Int)) / 2 = (hh : Int) := by omega
      clear hhe
      obtain ⟨p0, p1, p2, p3, p4, p5⟩ := HS.out.at_ m (by have := HN.out; omega)
      obtain ⟨q0, q1, q2, q3, q4, q5⟩ := HS.out.at_ hh (by have := HN.out; omega)
      have HKS := Lib.hid (show d[m]!.key.size ≤ maxLen ∧ d[hh]!.key.size ≤ maxLen from ⟨HS.out.key _ (by have := HN.out; omega), HS.out.key _ (by have := HN.out; omega)⟩)
      obtain ⟨z, hz⟩ : ∃ z, z = cmpI (rk d[m]!.key) (rk d[hh]!.key) := ⟨_, rfl⟩
      have HZ := Lib.hid (show z < 0 ↔ rkE rk d[m]! < rkE rk d[hh]! from by rw [hz]; exact cmpI_lt _ _)
      have KC := Lib.hid (show ∀ wx, Below wr.heap.size wr wx → Calls Try.prog 82 #[.agg #[.string d[m]!.key, .int .i64 d[m]!.u.k, .int .i64 d[m]!.u.n, .string d[m]!.u.s, .slice d[m]!.u.A d[m]!.u.la d[m]!.u.lc, .slice d[m]!.u.F d[m]!.u.lf d[m]!.u.fc], .agg #[.string d[hh]!.key, .int .i64 d[hh]!.u.k, .int .i64 d[hh]!.u.n, .string d[hh]!.u.s, .slice d[hh]!.u.A d[hh]!.u.la d[hh]!.u.lc, .slice d[hh]!.u.F d[hh]!.u.lf d[hh]!.u.fc], .pointer (some ⟨Rv, 0, none⟩)] wx fun e w' => e = .returned (.int .i64 z) ∧ Below wx.heap.size wx w' from fun wx hb => by rw [hz]; exact hC wx (HS.out.go hb).kp _ _ _ _ HKS.out.1 HKS.out.2)
      generalize d[m]!.key = k1 at p0 KC
      generalize d[m]!.u = u1 at p1 p2 p3 p4 p5 KC
      generalize d[hh]!.key = k2 at q0 KC
      generalize d[hh]!.u = u2 at q1 q2 q3 q4 q5 KC
      have hb1 : (m : Int) < (N : Int) := by omega
      have hb2 : (hh : Int) < (N : Int) := by omega
      clear hz
      go_wp2_with fail
      go_still_tail 9, (by kernel_rfl)
      change wpList _ _ _ _ _ wr.drew
      have hbd : Below wr.heap.size wr wr.drew := (Below.refl _ _).drew
      generalize wr.drew = w2 at hbd ⊢
      have HBD := Lib.hid hbd
      clear hbd
      go_wp2_with fail
      refine (KC.out w2 HBD.out).mono ?_
      rintro e w3 ⟨rfl, hb4⟩
      have HS3 := Lib.hid (HS.out.go (HBD.out.trans (hb4.mono HBD.out.size)))
      clear hb4 KC p0 p1 p2 p3 p4 p5 q0 q1 q2 q3 q4 q5
      by_cases hzn : z < 0
      · have hzd : decide (z < 0) = true := decide_eq_true hzn
        have HF2 := Lib.hid (HF.out.no hh1 hh2 (St.le_of_lt (HZ.out.1 hzn)))
        go_wp2_with fail
        exact ⟨⟨i, hh, rfl, rfl, hi, by omega, by omega, HS3.out, HF2.out⟩, by simp [intOf]; omega⟩
      · have hzd : decide (z < 0) = false := decide_eq_false hzn
        have HF2 := Lib.hid (HF.out.yes hh1 hh2 (St.le_of_not (fun h => hzn (HZ.out.2 h)) (HP.out.old hh m (by omega) (by omega) (Nat.le_refl _) (by omega))))
        go_wp2_with fail
        exact ⟨⟨hh + 1, j, by go_num, rfl, by omega, by omega, hj, HS3.out, HF2.out⟩, by simp [intOf]; omega⟩
    · obtain rfl : i = j := by omega
      have him : i ≤ m := by omega
      go_wp2_with fail
      go_loopw [17] (fun kv wr => ∃ (k : Nat) (dk : Array Eo), kv = .int .i64 k ∧ i ≤ k ∧ k ≤ m ∧ Sw w0 B dk wr ∧ St.Rot d dk k m (m + 1) ∧ Go.Sort.PermIn a bb d dk) (fun kv _ => (intOf kv).toNat)
      case atStart => exact ⟨m, d, rfl, him, Nat.le_refl _, HS.out, St.Rot.nil (.inl rfl) (by omega) (by omega), Go.Sort.permIn_refl _ _ _⟩
      case round =>
        obtain ⟨k, dk, rfl, hka, hkt, hS, hR, hQ⟩ := hrel
        have HS := Lib.hid hS
        have HR := Lib.hid hR
        have HQ := Lib.hid hQ
        have HSZ : Hid (N = dk.size) := Lib.hid (by rw [hR.1]; exact HN.out)
        clear hS hR hQ
        by_cases hkl : i < k
        · obtain ⟨q, hq⟩ : ∃ q : Nat, q = k - 1 := ⟨_, rfl⟩
          have e2 : (k : Int) - 1 = (q : Int) := by omega
          have hpN : (k : Int) < (N : Int) := by omega
          have hqN : (q : Int) < (N : Int) := by omega
          have HPQ := Lib.hid hq
          have hqt : i ≤ q := by omega
          have hkq : q < k := by omega
          clear hq
          obtain ⟨x0, x1, x2, x3, x4, x5⟩ := HS.out.at_ k (by have := HSZ.out; omega)
          obtain ⟨y0, y1, y2, y3, y4, y5⟩ := HS.out.at_ q (by have := HSZ.out; omega)
          obtain ⟨k1, hk1⟩ : ∃ kk, kk = dk[k]!.key := ⟨_, rfl⟩
          obtain ⟨u1, hu1⟩ : ∃ kk, kk = dk[k]!.u := ⟨_, rfl⟩
          obtain ⟨k2, hk2⟩ : ∃ kk, kk = dk[q]!.key := ⟨_, rfl⟩
          obtain ⟨u2, hu2⟩ : ∃ kk, kk = dk[q]!.u := ⟨_, rfl⟩
          rw [← hk1] at x0
          rw [← hu1] at x1 x2 x3 x4 x5
          rw [← hk2] at y0
          rw [← hu2] at y1 y2 y3 y4 y5
          have HE := Lib.hid (show k1 = dk[k]!.key ∧ u1 = dk[k]!.u ∧ k2 = dk[q]!.key ∧ u2 = dk[q]!.u from ⟨hk1, hu1, hk2, hu2⟩)
          clear hk1 hu1 hk2 hu2
          have hf := HS.out.frz
          go_wp2_with fail
          go_region
          have hs2 : Sw w0 B (Go.Sort.swp dk k q) ((((((((((((wr.setCell ⟨B, k * 6, none⟩ (.string k2)).setCell ⟨B, k * 6 + 1, none⟩ (.int .i64 u2.k)).setCell ⟨B, k * 6 + 2, none⟩ (.int .i64 u2.n)).setCell ⟨B, k * 6 + 3, none⟩ (.string u2.s)).setCell ⟨B, k * 6 + 4, none⟩ (.slice u2.A u2.la u2.lc)).setCell ⟨B, k * 6 + 5, none⟩ (.slice u2.F u2.lf u2.fc)).setCell ⟨B, q * 6, none⟩ (.string k1)).setCell ⟨B, q * 6 + 1, none⟩ (.int .i64 u1.k)).setCell ⟨B, q * 6 + 2, none⟩ (.int .i64 u1.n)).setCell ⟨B, q * 6 + 3, none⟩ (.string u1.s)).setCell ⟨B, q * 6 + 4, none⟩ (.slice u1.A u1.la u1.lc)).setCell ⟨B, q * 6 + 5, none⟩ (.slice u1.F u1.lf u1.fc)).drew := HS.out.swap (by have := HSZ.out; omega) (by have := HSZ.out; omega) (by omega) HE.out
          generalize ((((((((((((wr.setCell ⟨B, k * 6, none⟩ (.string k2)).setCell ⟨B, k * 6 + 1, none⟩ (.int .i64 u2.k)).setCell ⟨B, k * 6 + 2, none⟩ (.int .i64 u2.n)).setCell ⟨B, k * 6 + 3, none⟩ (.string u2.s)).setCell ⟨B, k * 6 + 4, none⟩ (.slice u2.A u2.la u2.lc)).setCell ⟨B, k * 6 + 5, none⟩ (.slice u2.F u2.lf u2.fc)).setCell ⟨B, q * 6, none⟩ (.string k1)).setCell ⟨B, q * 6 + 1, none⟩ (.int .i64 u1.k)).setCell ⟨B, q * 6 + 2, none⟩ (.int .i64 u1.n)).setCell ⟨B, q * 6 + 3, none⟩ (.string u1.s)).setCell ⟨B, q * 6 + 4, none⟩ (.slice u1.A u1.la u1.lc)).setCell ⟨B, q * 6 + 5, none⟩ (.slice u1.F u1.lf u1.fc)).drew = w2 at hs2 ⊢
          have HS2 := Lib.hid hs2
          clear hs2 hf x0 x1 x2 x3 x4 x5 y0 y1 y2 y3 y4 y5
          go_wp2_with fail
          refine ⟨⟨q, Go.Sort.swp dk k q, by go_num, hqt, by omega, HS2.out, ?_, ?_⟩, by simp [intOf]; omega⟩
          · rw [HPQ.out]
            exact HR.out.down (by omega) (by omega) (by have := HN.out; omega)
          · refine Go.Sort.permIn_trans _ _ _ _ _ HQ.out (Go.Sort.swp_permIn _ _ _ _ _ ?_ ?_ ?_ ?_ ?_)
            all_goals (have h9 := HSZ.out; omega)
        · obtain rfl : k = i := by omega
          have HFIN : Hid (St.Mrg (rkE rk) Eo.ix d dk a bb) := Lib.hid (by
            have h8 := HR.out
            refine St.Mrg.of_ins h8 HQ.out hi hkt (by omega) (by omega) HP.out.s1 HP.out.s2 HP.out.old (fun _ h => by omega) (fun _ h => ?_) (fun _ h => by omega) (fun h _ => HF.out.2.2.2.1 h)
            exact HF.out.2.2.2.2 h)
          go_wp2_with fail
          refine bodyPost_ret (results_none rfl _ _ _) rfl ?_
          exact ⟨rfl, dk, HS.out, HFIN.out⟩
end Go.Proofs.Ytmdlcalnncncjaa

/- symMerge of pairs, the longer run first. -/
set_option linter.unusedVariables false
set_option linter.unusedSimpArgs false
namespace Go.Proofs.Ytmdlcalnncncjaa
open Go.RowKit
set_option maxHeartbeats 16000000 in
set_option maxRecDepth 100000 in
theorem merge_hi (dd : Nat) (IH0 : ∀ (w0 : World) (B N c a m bb Rv : Nat) (rk : ByteArray → Int) (d : Array Eo) (w : World), Sw w0 B d w → CmpOk w0 B Rv rk → Pre rk N d a m bb → bb - a ≤ dd → Calls Try.prog 123 #[.slice (some ⟨B, 0, none⟩) N c, .int .i64 a, .int .i64 m, .int .i64 bb, cmpV Rv] w fun e w' => e = .returned (.tuple #[]) ∧ ∃ d', Sw w0 B d' w' ∧ St.Mrg (rkE rk) Eo.ix d d' a bb) (w0 : World) (B N c a m bb Rv : Nat) (rk : ByteArray → Int) (d : Array Eo) (w : World) (H : Sw w0 B d w) (hC : CmpOk w0 B Rv rk) (hP : Pre rk N d a m bb) (hd : bb - a ≤ dd + 1) (ha : ¬ m = a + 1) (hb : ¬ bb = m + 1) (hgt : (a + bb) / 2 < m) : Calls Try.prog 123 #[.slice (some ⟨B, 0, none⟩) N c, .int .i64 a, .int .i64 m, .int .i64 bb, cmpV Rv] w fun e w' => e = .returned (.tuple #[]) ∧ ∃ d', Sw w0 B d' w' ∧ St.Mrg (rkE rk) Eo.ix d d' a bb := by
  have hma : ((m : Int) - (a : Int) == 1) = false := by simp; omega
  have hmb : ((bb : Int) - (m : Int) == 1) = false := by simp; omega
  have h1 := hP.am
  have h2 := hP.mb
  have h3 := hP.bn
  have h4 := hP.nb
  have IH := Lib.hid IH0
  have HP := Lib.hid hP
  have HH := Lib.hid H
  have HN := Lib.hid hP.n
  obtain ⟨mid, hmid⟩ : ∃ mid : Nat, mid = (a + bb) / 2 := ⟨_, rfl⟩
  have hm1 : a + 2 ≤ mid := by omega
  have hm2 : mid + 2 ≤ bb := by omega
  have hmv : ((a : Int) + (bb : Int)) / 2 = (mid : Int) := by omega
  have hm3 : 2 * mid ≤ a + bb := by omega
  have hm4 : a + bb ≤ 2 * mid + 1 := by omega
  rw [← hmid] at hgt
  obtain ⟨N', hN'⟩ : ∃ N' : Nat, N' = mid + m := ⟨_, rfl⟩
  obtain ⟨p, hp⟩ : ∃ p : Nat, p = mid + m - 1 := ⟨_, rfl⟩
  have hNv : (mid : Int) + (m : Int) = (N' : Int) := by omega
  have hpv : (N' : Int) - 1 = (p : Int) := by omega
  clear IH0 H hP hmid
  obtain ⟨s0, hs0⟩ : ∃ s0 : Nat, s0 = mid + m - bb := ⟨_, rfl⟩
  have hs0v : (N' : Int) - (bb : Int) = (s0 : Int) := by omega
  have hs1 : a ≤ s0 := by omega
  have hs2 : s0 ≤ mid := by omega
  have HE := Lib.hid (show N' = mid + m ∧ p = mid + m - 1 ∧ s0 = mid + m - bb from ⟨hN', hp, hs0⟩)
  clear hN' hp hs0 ha hb
  go_enter Try.func123, Try.ntmps123
  go_wp2_with fail
  go_loopw [20, 21] (fun sv rv wr => ∃ st r : Nat, sv = .int .i64 st ∧ rv = .int .i64 r ∧ s0 ≤ st ∧ st ≤ r ∧ r ≤ mid ∧ Sw w0 B d wr ∧ St.Fnd (rkE rk) Eo.ix d s0 mid p st r) (fun sv rv _ => (intOf rv).toNat - (intOf sv).toNat)
  case atStart => exact ⟨s0, mid, rfl, rfl, Nat.le_refl _, by omega, Nat.le_refl _, HH.out, St.Fnd.start (by omega)⟩
  case round =>
    obtain ⟨st, r, rfl, rfl, hi, hij, hj, hS, hF⟩ := hrel
    have HS := Lib.hid hS
    have HF := Lib.hid hF
    clear hS hF
    by_cases hlt : st < r
    · obtain ⟨hh, hhe⟩ : ∃ hh : Nat, hh = (st + r) / 2 := ⟨_, rfl⟩
      have hh1 : st ≤ hh := by omega
      have hh2 : hh < r := by omega
      have hdv : ((st : Int) + (r : Int)) / 2 = (hh : Int) := by omega
      obtain ⟨ee, hee⟩ : ∃ ee : Nat, ee = p - hh := ⟨_, rfl⟩
      have hel : ee < bb := by have := HE.out; omega
      have heg : m ≤ ee := by have := HE.out; omega
      have hhm : hh < m := by omega
      have hha : a ≤ hh := by omega
      have heu : (p : Int) - (hh : Int) = (ee : Int) := by have := HE.out; omega
      have hwe : IntKind.i64.wrap (ee : Int) = (ee : Int) := by rw [IntKind.wrap_i64]; omega
      have HEE := Lib.hid hee
      clear hhe hee
      obtain ⟨p0, p1, p2, p3, p4, p5⟩ := HS.out.at_ ee (by have := HN.out; omega)
      obtain ⟨q0, q1, q2, q3, q4, q5⟩ := HS.out.at_ hh (by have := HN.out; omega)
      have HKS := Lib.hid (show d[ee]!.key.size ≤ maxLen ∧ d[hh]!.key.size ≤ maxLen from ⟨HS.out.key _ (by have := HN.out; omega), HS.out.key _ (by have := HN.out; omega)⟩)
      obtain ⟨z, hz⟩ : ∃ z, z = cmpI (rk d[ee]!.key) (rk d[hh]!.key) := ⟨_, rfl⟩
      have HZ := Lib.hid (show z < 0 ↔ rkE rk d[ee]! < rkE rk d[hh]! from by rw [hz]; exact cmpI_lt _ _)
      have KC := Lib.hid (show ∀ wx, Below wr.heap.size wr wx → Calls Try.prog 82 #[.agg #[.string d[ee]!.key, .int .i64 d[ee]!.u.k, .int .i64 d[ee]!.u.n, .string d[ee]!.u.s, .slice d[ee]!.u.A d[ee]!.u.la d[ee]!.u.lc, .slice d[ee]!.u.F d[ee]!.u.lf d[ee]!.u.fc], .agg #[.string d[hh]!.key, .int .i64 d[hh]!.u.k, .int .i64 d[hh]!.u.n, .string d[hh]!.u.s, .slice d[hh]!.u.A d[hh]!.u.la d[hh]!.u.lc, .slice d[hh]!.u.F d[hh]!.u.lf d[hh]!.u.fc], .pointer (some ⟨Rv, 0, none⟩)] wx fun e w' => e = .returned (.int .i64 z) ∧ Below wx.heap.size wx w' from fun wx hb => by rw [hz]; exact hC wx (HS.out.go hb).kp _ _ _ _ HKS.out.1 HKS.out.2)
      generalize d[ee]!.key = k1 at p0 KC
      generalize d[ee]!.u = u1 at p1 p2 p3 p4 p5 KC
      generalize d[hh]!.key = k2 at q0 KC
      generalize d[hh]!.u = u2 at q1 q2 q3 q4 q5 KC
      have hb1 : (ee : Int) < (N : Int) := by omega
      have hb2 : (hh : Int) < (N : Int) := by omega
      clear hz
      go_wp2_with fail
      go_still_tail 11, (by kernel_rfl)
      change wpList _ _ _ _ _ wr.drew
      have hbd : Below wr.heap.size wr wr.drew := (Below.refl _ _).drew
      generalize wr.drew = w2 at hbd ⊢
      have HBD := Lib.hid hbd
      clear hbd
      go_wp2_with fail
      refine (KC.out w2 HBD.out).mono ?_
      rintro e w3 ⟨rfl, hb4⟩
      have HS3 := Lib.hid (HS.out.go (HBD.out.trans (hb4.mono HBD.out.size)))
      clear hb4 KC p0 p1 p2 p3 p4 p5 q0 q1 q2 q3 q4 q5
      by_cases hzn : z < 0
      · have hzd : decide (z < 0) = true := decide_eq_true hzn
        have HF2 := Lib.hid (HF.out.no hh1 hh2 (by rw [← HEE.out]; exact St.le_of_lt (HZ.out.1 hzn)))
        go_wp2_with fail
        exact ⟨⟨st, hh, rfl, rfl, hi, by omega, by omega, HS3.out, HF2.out⟩, by simp [intOf]; omega⟩
      · have hzd : decide (z < 0) = false := decide_eq_false hzn
        have HF2 := Lib.hid (HF.out.yes hh1 hh2 (by rw [← HEE.out]; exact St.le_of_not (fun h => hzn (HZ.out.2 h)) (HP.out.old hh ee hha hhm heg hel)))
        go_wp2_with fail
        exact ⟨⟨hh + 1, r, by go_num, rfl, by omega, by omega, hj, HS3.out, HF2.out⟩, by simp [intOf]; omega⟩
    · obtain rfl : st = r := by omega
      obtain ⟨en, hen⟩ : ∃ en : Nat, en = mid + m - st := ⟨_, rfl⟩
      have henv : (N' : Int) - (st : Int) = (en : Int) := by have := HE.out; omega
      have hsm : st ≤ m := by omega
      have hsd : st ≤ mid := by omega
      have hme : m ≤ en := by omega
      have heb : en ≤ bb := by have := HE.out; omega
      have has : a ≤ st := by omega
      have hke : mid = st + (en - m) := by omega
      have HX : Hid ((a < st → en < bb → St.le (rkE rk) Eo.ix d[st - 1]! d[en]!) ∧ (m < en → st < m → St.le (rkE rk) Eo.ix d[en - 1]! d[st]!)) := Lib.hid (by
        have h8 := HE.out
        refine ⟨fun h1 h2 => ?_, fun h1 h2 => ?_⟩
        · have h9 := HF.out.2.2.2.1 (by omega)
          rwa [show p - (st - 1) = en by omega] at h9
        · have h9 := HF.out.2.2.2.2 (by omega)
          rwa [show p - st = en - 1 by omega] at h9)
      have HKE := Lib.hid hke
      clear hen hke
      go_upto_region 39 with fail
      go_cut [185] from 178 to 185 (fun v wc => v = .bool (decide (st < m ∧ m < en)) ∧ wr = wc)
      case first =>
        by_cases hA1 : st < m
        · by_cases hA2 : m < en
          · go_wp2_with fail
            go_meet
            exact ⟨by rw [decide_eq_true (show st < m ∧ m < en from ⟨hA1, hA2⟩)], rfl⟩
          · go_wp2_with fail
            go_meet
            exact ⟨by rw [decide_eq_false (show ¬ (st < m ∧ m < en) from fun h => hA2 h.2)], rfl⟩
        · go_wp2_with fail
          go_meet
          exact ⟨by rw [decide_eq_false (show ¬ (st < m ∧ m < en) from fun h => hA1 h.1)], rfl⟩
      case rest =>
        obtain ⟨rfl, rfl⟩ := hcut
        go_upto_if 185 with fail
        go_cut [] from 185 to 191 (fun wc => ∃ d1, Sw w0 B d1 wc ∧ St.Rot d d1 st m en ∧ Go.Sort.PermIn a bb d d1)
        case first =>
          by_cases hA : st < m ∧ m < en
          · rw [decide_eq_true hA]
            have K := Lib.hid (rotate_any w0 B N c st m en (cmpV Rv) d wr HS.out HN.out h4 hA.1 hA.2 (by omega))
            go_wp2_with fail
            refine K.out.mono ?_
            rintro e w4 ⟨rfl, d1, hs1, hr1, hp1⟩
            have HS1 := Lib.hid hs1
            have HR1 := Lib.hid hr1
            have HQ1 := Lib.hid (Go.Sort.permIn_mono _ _ _ _ a bb has heb (by have := HN.out; omega) hp1)
            clear hs1 hr1 hp1 K
            go_wp2_with fail
            go_meet
            exact ⟨d1, HS1.out, HR1.out, HQ1.out⟩
          · rw [decide_eq_false hA]
            go_wp2_with fail
            go_meet
            exact ⟨d, HS.out, St.Rot.nil (by omega) hsm hme, Go.Sort.permIn_refl _ _ _⟩
        case rest =>
        obtain ⟨d1, hs1, hr1, hp1⟩ := hcut
        have HS1 := Lib.hid hs1
        have HR1 := Lib.hid hr1
        have HQ1 := Lib.hid hp1
        have HN1 : Hid (N = d1.size) := Lib.hid (by rw [hr1.1]; exact HN.out)
        have HU : Hid (St.Srt (rkE rk) Eo.ix d1 a st ∧ St.Srt (rkE rk) Eo.ix d1 st mid ∧ St.Srt (rkE rk) Eo.ix d1 mid en ∧ St.Srt (rkE rk) Eo.ix d1 en bb ∧ St.Old Eo.ix d1 a st mid ∧ St.Old Eo.ix d1 mid en bb) := Lib.hid (by have h8 := hr1.runs has hsm hme heb HP.out.s1 HP.out.s2 HP.out.old; rwa [← HKE.out] at h8)
        have hde : mid ≤ en := by have := HKE.out; omega
        clear hs1 hr1 hp1
        generalize wc = wr at HS1 ⊢
        go_upto_region 41 with fail
        go_cut [199] from 192 to 199 (fun v wc => v = .bool (decide (a < st ∧ st < mid)) ∧ wr = wc)
        case first =>
          by_cases hA1 : a < st
          · by_cases hA2 : st < mid
            · go_wp2_with fail
              go_meet
              exact ⟨by rw [decide_eq_true (show a < st ∧ st < mid from ⟨hA1, hA2⟩)], rfl⟩
            · go_wp2_with fail
              go_meet
              exact ⟨by rw [decide_eq_false (show ¬ (a < st ∧ st < mid) from fun h => hA2 h.2)], rfl⟩
          · go_wp2_with fail
            go_meet
            exact ⟨by rw [decide_eq_false (show ¬ (a < st ∧ st < mid) from fun h => hA1 h.1)], rfl⟩
        case rest =>
          obtain ⟨rfl, rfl⟩ := hcut
          go_upto_if 199 with fail
          go_cut [] from 199 to 205 (fun wc => ∃ d2, Sw w0 B d2 wc ∧ St.Mrg (rkE rk) Eo.ix d1 d2 a mid)
          case first =>
            by_cases hA : a < st ∧ st < mid
            · rw [decide_eq_true hA]
              have K := Lib.hid (IH.out w0 B N c a st mid Rv rk d1 wr HS1.out hC ⟨HN1.out, hA.1, hA.2, by omega, h4, HU.out.1, HU.out.2.1, HU.out.2.2.2.2.1⟩ (by omega))
              go_wp2_with fail
              refine K.out.mono ?_
              rintro e w4 ⟨rfl, d2, hs2, hm2⟩
              have HS2 := Lib.hid hs2
              have HM2 := Lib.hid hm2
              clear hs2 hm2 K
              go_wp2_with fail
              go_meet
              exact ⟨d2, HS2.out, HM2.out⟩
            · rw [decide_eq_false hA]
              have HM2 : Hid (St.Mrg (rkE rk) Eo.ix d1 d1 a mid) := Lib.hid ⟨Go.Sort.permIn_refl _ _ _, by
                by_cases hx : a < st
                · have hy : st = mid := by omega
                  rw [← hy]; exact HU.out.1
                · have hy : a = st := by omega
                  rw [hy]; exact HU.out.2.1⟩
              go_wp2_with fail
              go_meet
              exact ⟨d1, HS1.out, HM2.out⟩
          case rest =>
          obtain ⟨d2, hs2, hm2⟩ := hcut
          have HS2 := Lib.hid hs2
          have HM2 := Lib.hid hm2
          have HN2 : Hid (N = d2.size) := Lib.hid (by rw [hm2.1.1]; exact HN1.out)
          have HV : Hid (St.Srt (rkE rk) Eo.ix d2 mid en ∧ St.Srt (rkE rk) Eo.ix d2 en bb ∧ St.Old Eo.ix d2 mid en bb) := Lib.hid ⟨HU.out.2.2.1.congr fun i x _ => hm2.1.2.1 i (.inr x), HU.out.2.2.2.1.congr fun i x _ => hm2.1.2.1 i (.inr (by omega)), fun i j x y z u => by rw [hm2.1.2.1 i (.inr x), hm2.1.2.1 j (.inr (by omega))]; exact HU.out.2.2.2.2.2 i j x y z u⟩
          clear hs2 hm2
          generalize wc = wr at HS2 ⊢
          go_upto_region 43 with fail
          go_cut [213] from 206 to 213 (fun v wc => v = .bool (decide (mid < en ∧ en < bb)) ∧ wr = wc)
          case first =>
            by_cases hA1 : mid < en
            · by_cases hA2 : en < bb
              · go_wp2_with fail
                go_meet
                exact ⟨by rw [decide_eq_true (show mid < en ∧ en < bb from ⟨hA1, hA2⟩)], rfl⟩
              · go_wp2_with fail
                go_meet
                exact ⟨by rw [decide_eq_false (show ¬ (mid < en ∧ en < bb) from fun h => hA2 h.2)], rfl⟩
            · go_wp2_with fail
              go_meet
              exact ⟨by rw [decide_eq_false (show ¬ (mid < en ∧ en < bb) from fun h => hA1 h.1)], rfl⟩
          case rest =>
            obtain ⟨rfl, rfl⟩ := hcut
            go_upto_if 213 with fail
            by_cases hA : mid < en ∧ en < bb
            · rw [decide_eq_true hA]
              have K := Lib.hid (IH.out w0 B N c mid en bb Rv rk d2 wr HS2.out hC ⟨HN2.out, hA.1, hA.2, h3, h4, HV.out.1, HV.out.2.1, HV.out.2.2⟩ (by omega))
              go_wp2_with fail
              refine K.out.mono ?_
              rintro e w4 ⟨rfl, d3, hs3, hm3⟩
              have HS3 := Lib.hid hs3
              have HF3 : Hid (St.Mrg (rkE rk) Eo.ix d d3 a bb) := Lib.hid (St.Mrg.halves HR1.out HKE.out HQ1.out has hsm hme heb (by have := HN.out; omega) HP.out.s1 HP.out.s2 HX.out.1 HX.out.2 HM2.out hm3)
              clear hs3 hm3 K
              go_wp2_with fail
              go_end0
              exact ⟨rfl, d3, HS3.out, HF3.out⟩
            · rw [decide_eq_false hA]
              have HF3 : Hid (St.Mrg (rkE rk) Eo.ix d d2 a bb) := Lib.hid (St.Mrg.halves HR1.out HKE.out HQ1.out has hsm hme heb (by have := HN.out; omega) HP.out.s1 HP.out.s2 HX.out.1 HX.out.2 HM2.out ⟨Go.Sort.permIn_refl _ _ _, by
                by_cases hx : mid < en
                · have hy : en = bb := by omega
                  rw [← hy]; exact HV.out.1
                · have hy : mid = en := by omega
                  rw [hy]; exact HV.out.2.1⟩)
              go_wp2_with fail
              go_end0
              exact ⟨rfl, d2, HS2.out, HF3.out⟩
end Go.Proofs.Ytmdlcalnncncjaa

/- symMerge of pairs, the longer run last. -/
set_option linter.unusedVariables false
set_option linter.unusedSimpArgs false
namespace Go.Proofs.Ytmdlcalnncncjaa
open Go.RowKit
set_option maxHeartbeats 16000000 in
set_option maxRecDepth 100000 in
theorem merge_lo (dd : Nat) (IH0 : ∀ (w0 : World) (B N c a m bb Rv : Nat) (rk : ByteArray → Int) (d : Array Eo) (w : World), Sw w0 B d w → CmpOk w0 B Rv rk → Pre rk N d a m bb → bb - a ≤ dd → Calls Try.prog 123 #[.slice (some ⟨B, 0, none⟩) N c, .int .i64 a, .int .i64 m, .int .i64 bb, cmpV Rv] w fun e w' => e = .returned (.tuple #[]) ∧ ∃ d', Sw w0 B d' w' ∧ St.Mrg (rkE rk) Eo.ix d d' a bb) (w0 : World) (B N c a m bb Rv : Nat) (rk : ByteArray → Int) (d : Array Eo) (w : World) (H : Sw w0 B d w) (hC : CmpOk w0 B Rv rk) (hP : Pre rk N d a m bb) (hd : bb - a ≤ dd + 1) (ha : ¬ m = a + 1) (hb : ¬ bb = m + 1) (hgt : ¬ (a + bb) / 2 < m) : Calls Try.prog 123 #[.slice (some ⟨B, 0, none⟩) N c, .int .i64 a, .int .i64 m, .int .i64 bb, cmpV Rv] w fun e w' => e = .returned (.tuple #[]) ∧ ∃ d', Sw w0 B d' w' ∧ St.Mrg (rkE rk) Eo.ix d d' a bb := by
  have hma : ((m : Int) - (a : Int) == 1) = false := by simp; omega
  have hmb : ((bb : Int) - (m : Int) == 1) = false := by simp; omega
  have h1 := hP.am
  have h2 := hP.mb
  have h3 := hP.bn
  have h4 := hP.nb
  have IH := Lib.hid IH0
  have HP := Lib.hid hP
  have HH := Lib.hid H
  have HN := Lib.hid hP.n
  obtain ⟨mid, hmid⟩ : ∃ mid : Nat, mid = (a + bb) / 2 := ⟨_, rfl⟩
  have hm1 : a + 2 ≤ mid := by omega
  have hm2 : mid + 2 ≤ bb := by omega
  have hmv : ((a : Int) + (bb : Int)) / 2 = (mid : Int) := by omega
  have hm3 : 2 * mid ≤ a + bb := by omega
  have hm4 : a + bb ≤ 2 * mid + 1 := by omega
  rw [← hmid] at hgt
  obtain ⟨N', hN'⟩ : ∃ N' : Nat, N' = mid + m := ⟨_, rfl⟩
  obtain ⟨p, hp⟩ : ∃ p : Nat, p = mid + m - 1 := ⟨_, rfl⟩
  have hNv : (mid : Int) + (m : Int) = (N' : Int) := by omega
  have hpv : (N' : Int) - 1 = (p : Int) := by omega
  clear IH0 H hP hmid
  have HE := Lib.hid (show N' = mid + m ∧ p = mid + m - 1 from ⟨hN', hp⟩)
  clear hN' hp ha hb
  go_enter Try.func123, Try.ntmps123
  go_wp2_with fail
  go_loopw [20, 21] (fun sv rv wr => ∃ st r : Nat, sv = .int .i64 st ∧ rv = .int .i64 r ∧ a ≤ st ∧ st ≤ r ∧ r ≤ m ∧ Sw w0 B d wr ∧ St.Fnd (rkE rk) Eo.ix d a m p st r) (fun sv rv _ => (intOf rv).toNat - (intOf sv).toNat)
  case atStart => exact ⟨a, m, rfl, rfl, Nat.le_refl _, by omega, Nat.le_refl _, HH.out, St.Fnd.start (by omega)⟩
  case round =>
    obtain ⟨st, r, rfl, rfl, hi, hij, hj, hS, hF⟩ := hrel
    have HS := Lib.hid hS
    have HF := Lib.hid hF
    clear hS hF
    by_cases hlt : st < r
    · obtain ⟨hh, hhe⟩ : ∃ hh : Nat, hh = (st + r) / 2 := ⟨_, rfl⟩
      have hh1 : st ≤ hh := by omega
      have hh2 : hh < r := by omega
      have hdv : ((st : Int) + (r : Int)) / 2 = (hh : Int) := by omega
      obtain ⟨ee, hee⟩ : ∃ ee : Nat, ee = p - hh := ⟨_, rfl⟩
      have hel : ee < bb := by have := HE.out; omega
      have heg : m ≤ ee := by have := HE.out; omega
      have hhm : hh < m := by omega
      have hha : a ≤ hh := by omega
      have heu : (p : Int) - (hh : Int) = (ee : Int) := by have := HE.out; omega
      have hwe : IntKind.i64.wrap (ee : Int) = (ee : Int) := by rw [IntKind.wrap_i64]; omega
      have HEE := Lib.hid hee
      clear hhe hee
      obtain ⟨p0, p1, p2, p3, p4, p5⟩ := HS.out.at_ ee (by have := HN.out; omega)
      obtain ⟨q0, q1, q2, q3, q4, q5⟩ := HS.out.at_ hh (by have := HN.out; omega)
      have HKS := Lib.hid (show d[ee]!.key.size ≤ maxLen ∧ d[hh]!.key.size ≤ maxLen from ⟨HS.out.key _ (by have := HN.out; omega), HS.out.key _ (by have := HN.out; omega)⟩)
      obtain ⟨z, hz⟩ : ∃ z, z = cmpI (rk d[ee]!.key) (rk d[hh]!.key) := ⟨_, rfl⟩
      have HZ := Lib.hid (show z < 0 ↔ rkE rk d[ee]! < rkE rk d[hh]! from by rw [hz]; exact cmpI_lt _ _)
      have KC := Lib.hid (show ∀ wx, Below wr.heap.size wr wx → Calls Try.prog 82 #[.agg #[.string d[ee]!.key, .int .i64 d[ee]!.u.k, .int .i64 d[ee]!.u.n, .string d[ee]!.u.s, .slice d[ee]!.u.A d[ee]!.u.la d[ee]!.u.lc, .slice d[ee]!.u.F d[ee]!.u.lf d[ee]!.u.fc], .agg #[.string d[hh]!.key, .int .i64 d[hh]!.u.k, .int .i64 d[hh]!.u.n, .string d[hh]!.u.s, .slice d[hh]!.u.A d[hh]!.u.la d[hh]!.u.lc, .slice d[hh]!.u.F d[hh]!.u.lf d[hh]!.u.fc], .pointer (some ⟨Rv, 0, none⟩)] wx fun e w' => e = .returned (.int .i64 z) ∧ Below wx.heap.size wx w' from fun wx hb => by rw [hz]; exact hC wx (HS.out.go hb).kp _ _ _ _ HKS.out.1 HKS.out.2)
      generalize d[ee]!.key = k1 at p0 KC
      generalize d[ee]!.u = u1 at p1 p2 p3 p4 p5 KC
      generalize d[hh]!.key = k2 at q0 KC
      generalize d[hh]!.u = u2 at q1 q2 q3 q4 q5 KC
      have hb1 : (ee : Int) < (N : Int) := by omega
      have hb2 : (hh : Int) < (N : Int) := by omega
      clear hz
      go_wp2_with fail
      go_still_tail 11, (by kernel_rfl)
      change wpList _ _ _ _ _ wr.drew
      have hbd : Below wr.heap.size wr wr.drew := (Below.refl _ _).drew
      generalize wr.drew = w2 at hbd ⊢
      have HBD := Lib.hid hbd
      clear hbd
      go_wp2_with fail
      refine (KC.out w2 HBD.out).mono ?_
      rintro e w3 ⟨rfl, hb4⟩
      have HS3 := Lib.hid (HS.out.go (HBD.out.trans (hb4.mono HBD.out.size)))
      clear hb4 KC p0 p1 p2 p3 p4 p5 q0 q1 q2 q3 q4 q5
      by_cases hzn : z < 0
      · have hzd : decide (z < 0) = true := decide_eq_true hzn
        have HF2 := Lib.hid (HF.out.no hh1 hh2 (by rw [← HEE.out]; exact St.le_of_lt (HZ.out.1 hzn)))
        go_wp2_with fail
        exact ⟨⟨st, hh, rfl, rfl, hi, by omega, by omega, HS3.out, HF2.out⟩, by simp [intOf]; omega⟩
      · have hzd : decide (z < 0) = false := decide_eq_false hzn
        have HF2 := Lib.hid (HF.out.yes hh1 hh2 (by rw [← HEE.out]; exact St.le_of_not (fun h => hzn (HZ.out.2 h)) (HP.out.old hh ee hha hhm heg hel)))
        go_wp2_with fail
        exact ⟨⟨hh + 1, r, by go_num, rfl, by omega, by omega, hj, HS3.out, HF2.out⟩, by simp [intOf]; omega⟩
    · obtain rfl : st = r := by omega
      obtain ⟨en, hen⟩ : ∃ en : Nat, en = mid + m - st := ⟨_, rfl⟩
      have henv : (N' : Int) - (st : Int) = (en : Int) := by have := HE.out; omega
      have hsm : st ≤ m := by omega
      have hsd : st ≤ mid := by omega
      have hme : m ≤ en := by omega
      have heb : en ≤ bb := by have := HE.out; omega
      have has : a ≤ st := by omega
      have hke : mid = st + (en - m) := by omega
      have HX : Hid ((a < st → en < bb → St.le (rkE rk) Eo.ix d[st - 1]! d[en]!) ∧ (m < en → st < m → St.le (rkE rk) Eo.ix d[en - 1]! d[st]!)) := Lib.hid (by
        have h8 := HE.out
        refine ⟨fun h1 h2 => ?_, fun h1 h2 => ?_⟩
        · have h9 := HF.out.2.2.2.1 (by omega)
          rwa [show p - (st - 1) = en by omega] at h9
        · have h9 := HF.out.2.2.2.2 (by omega)
          rwa [show p - st = en - 1 by omega] at h9)
      have HKE := Lib.hid hke
      clear hen hke
      go_upto_region 39 with fail
      go_cut [185] from 178 to 185 (fun v wc => v = .bool (decide (st < m ∧ m < en)) ∧ wr = wc)
      case first =>
        by_cases hA1 : st < m
        · by_cases hA2 : m < en
          · go_wp2_with fail
            go_meet
            exact ⟨by rw [decide_eq_true (show st < m ∧ m < en from ⟨hA1, hA2⟩)], rfl⟩
          · go_wp2_with fail
            go_meet
            exact ⟨by rw [decide_eq_false (show ¬ (st < m ∧ m < en) from fun h => hA2 h.2)], rfl⟩
        · go_wp2_with fail
          go_meet
          exact ⟨by rw [decide_eq_false (show ¬ (st < m ∧ m < en) from fun h => hA1 h.1)], rfl⟩
      case rest =>
        obtain ⟨rfl, rfl⟩ := hcut
        go_upto_if 185 with fail
        go_cut [] from 185 to 191 (fun wc => ∃ d1, Sw w0 B d1 wc ∧ St.Rot d d1 st m en ∧ Go.Sort.PermIn a bb d d1)
        case first =>
          by_cases hA : st < m ∧ m < en
          · rw [decide_eq_true hA]
            have K := Lib.hid (rotate_any w0 B N c st m en (cmpV Rv) d wr HS.out HN.out h4 hA.1 hA.2 (by omega))
            go_wp2_with fail
            refine K.out.mono ?_
            rintro e w4 ⟨rfl, d1, hs1, hr1, hp1⟩
            have HS1 := Lib.hid hs1
            have HR1 := Lib.hid hr1
            have HQ1 := Lib.hid (Go.Sort.permIn_mono _ _ _ _ a bb has heb (by have := HN.out; omega) hp1)
            clear hs1 hr1 hp1 K
            go_wp2_with fail
            go_meet
            exact ⟨d1, HS1.out, HR1.out, HQ1.out⟩
          · rw [decide_eq_false hA]
            go_wp2_with fail
            go_meet
            exact ⟨d, HS.out, St.Rot.nil (by omega) hsm hme, Go.Sort.permIn_refl _ _ _⟩
        case rest =>
        obtain ⟨d1, hs1, hr1, hp1⟩ := hcut
        have HS1 := Lib.hid hs1
        have HR1 := Lib.hid hr1
        have HQ1 := Lib.hid hp1
        have HN1 : Hid (N = d1.size) := Lib.hid (by rw [hr1.1]; exact HN.out)
        have HU : Hid (St.Srt (rkE rk) Eo.ix d1 a st ∧ St.Srt (rkE rk) Eo.ix d1 st mid ∧ St.Srt (rkE rk) Eo.ix d1 mid en ∧ St.Srt (rkE rk) Eo.ix d1 en bb ∧ St.Old Eo.ix d1 a st mid ∧ St.Old Eo.ix d1 mid en bb) := Lib.hid (by have h8 := hr1.runs has hsm hme heb HP.out.s1 HP.out.s2 HP.out.old; rwa [← HKE.out] at h8)
        have hde : mid ≤ en := by have := HKE.out; omega
        clear hs1 hr1 hp1
        generalize wc = wr at HS1 ⊢
        go_upto_region 41 with fail
        go_cut [199] from 192 to 199 (fun v wc => v = .bool (decide (a < st ∧ st < mid)) ∧ wr = wc)
        case first =>
          by_cases hA1 : a < st
          · by_cases hA2 : st < mid
            · go_wp2_with fail
              go_meet
              exact ⟨by rw [decide_eq_true (show a < st ∧ st < mid from ⟨hA1, hA2⟩)], rfl⟩
            · go_wp2_with fail
              go_meet
              exact ⟨by rw [decide_eq_false (show ¬ (a < st ∧ st < mid) from fun h => hA2 h.2)], rfl⟩
          · go_wp2_with fail
            go_meet
            exact ⟨by rw [decide_eq_false (show ¬ (a < st ∧ st < mid) from fun h => hA1 h.1)], rfl⟩
        case rest =>
          obtain ⟨rfl, rfl⟩ := hcut
          go_upto_if 199 with fail
          go_cut [] from 199 to 205 (fun wc => ∃ d2, Sw w0 B d2 wc ∧ St.Mrg (rkE rk) Eo.ix d1 d2 a mid)
          case first =>
            by_cases hA : a < st ∧ st < mid
            · rw [decide_eq_true hA]
              have K := Lib.hid (IH.out w0 B N c a st mid Rv rk d1 wr HS1.out hC ⟨HN1.out, hA.1, hA.2, by omega, h4, HU.out.1, HU.out.2.1, HU.out.2.2.2.2.1⟩ (by omega))
              go_wp2_with fail
              refine K.out.mono ?_
              rintro e w4 ⟨rfl, d2, hs2, hm2⟩
              have HS2 := Lib.hid hs2
              have HM2 := Lib.hid hm2
              clear hs2 hm2 K
              go_wp2_with fail
              go_meet
              exact ⟨d2, HS2.out, HM2.out⟩
            · rw [decide_eq_false hA]
              have HM2 : Hid (St.Mrg (rkE rk) Eo.ix d1 d1 a mid) := Lib.hid ⟨Go.Sort.permIn_refl _ _ _, by
                by_cases hx : a < st
                · have hy : st = mid := by omega
                  rw [← hy]; exact HU.out.1
                · have hy : a = st := by omega
                  rw [hy]; exact HU.out.2.1⟩
              go_wp2_with fail
              go_meet
              exact ⟨d1, HS1.out, HM2.out⟩
          case rest =>
          obtain ⟨d2, hs2, hm2⟩ := hcut
          have HS2 := Lib.hid hs2
          have HM2 := Lib.hid hm2
          have HN2 : Hid (N = d2.size) := Lib.hid (by rw [hm2.1.1]; exact HN1.out)
          have HV : Hid (St.Srt (rkE rk) Eo.ix d2 mid en ∧ St.Srt (rkE rk) Eo.ix d2 en bb ∧ St.Old Eo.ix d2 mid en bb) := Lib.hid ⟨HU.out.2.2.1.congr fun i x _ => hm2.1.2.1 i (.inr x), HU.out.2.2.2.1.congr fun i x _ => hm2.1.2.1 i (.inr (by omega)), fun i j x y z u => by rw [hm2.1.2.1 i (.inr x), hm2.1.2.1 j (.inr (by omega))]; exact HU.out.2.2.2.2.2 i j x y z u⟩
          clear hs2 hm2
          generalize wc = wr at HS2 ⊢
          go_upto_region 43 with fail
          go_cut [213] from 206 to 213 (fun v wc => v = .bool (decide (mid < en ∧ en < bb)) ∧ wr = wc)
          case first =>
            by_cases hA1 : mid < en
            · by_cases hA2 : en < bb
              · go_wp2_with fail
                go_meet
                exact ⟨by rw [decide_eq_true (show mid < en ∧ en < bb from ⟨hA1, hA2⟩)], rfl⟩
              · go_wp2_with fail
                go_meet
                exact ⟨by rw [decide_eq_false (show ¬ (mid < en ∧ en < bb) from fun h => hA2 h.2)], rfl⟩
            · go_wp2_with fail
              go_meet
              exact ⟨by rw [decide_eq_false (show ¬ (mid < en ∧ en < bb) from fun h => hA1 h.1)], rfl⟩
          case rest =>
            obtain ⟨rfl, rfl⟩ := hcut
            go_upto_if 213 with fail
            by_cases hA : mid < en ∧ en < bb
            · rw [decide_eq_true hA]
              have K := Lib.hid (IH.out w0 B N c mid en bb Rv rk d2 wr HS2.out hC ⟨HN2.out, hA.1, hA.2, h3, h4, HV.out.1, HV.out.2.1, HV.out.2.2⟩ (by omega))
              go_wp2_with fail
              refine K.out.mono ?_
              rintro e w4 ⟨rfl, d3, hs3, hm3⟩
              have HS3 := Lib.hid hs3
              have HF3 : Hid (St.Mrg (rkE rk) Eo.ix d d3 a bb) := Lib.hid (St.Mrg.halves HR1.out HKE.out HQ1.out has hsm hme heb (by have := HN.out; omega) HP.out.s1 HP.out.s2 HX.out.1 HX.out.2 HM2.out hm3)
              clear hs3 hm3 K
              go_wp2_with fail
              go_end0
              exact ⟨rfl, d3, HS3.out, HF3.out⟩
            · rw [decide_eq_false hA]
              have HF3 : Hid (St.Mrg (rkE rk) Eo.ix d d2 a bb) := Lib.hid (St.Mrg.halves HR1.out HKE.out HQ1.out has hsm hme heb (by have := HN.out; omega) HP.out.s1 HP.out.s2 HX.out.1 HX.out.2 HM2.out ⟨Go.Sort.permIn_refl _ _ _, by
                by_cases hx : mid < en
                · have hy : en = bb := by omega
                  rw [← hy]; exact HV.out.1
                · have hy : mid = en := by omega
                  rw [hy]; exact HV.out.2.1⟩)
              go_wp2_with fail
              go_end0
              exact ⟨rfl, d2, HS2.out, HF3.out⟩
end Go.Proofs.Ytmdlcalnncncjaa

/- symMerge of pairs. -/
set_option linter.unusedVariables false
set_option linter.unusedSimpArgs false
namespace Go.Proofs.Ytmdlcalnncncjaa
open Go.RowKit
theorem merge_any (dd : Nat) : ∀ (w0 : World) (B N c a m bb Rv : Nat) (rk : ByteArray → Int) (d : Array Eo) (w : World) (H : Sw w0 B d w) (hC : CmpOk w0 B Rv rk) (hP : Pre rk N d a m bb) (hd : bb - a ≤ dd), Calls Try.prog 123 #[.slice (some ⟨B, 0, none⟩) N c, .int .i64 a, .int .i64 m, .int .i64 bb, cmpV Rv] w fun e w' => e = .returned (.tuple #[]) ∧ ∃ d', Sw w0 B d' w' ∧ St.Mrg (rkE rk) Eo.ix d d' a bb := by
  induction dd with
  | zero =>
    intro w0 B N c a m bb Rv rk d w H hC hP hd
    have h1 := hP.am
    have h2 := hP.mb
    omega
  | succ dd ih =>
    intro w0 B N c a m bb Rv rk d w H hC hP hd
    by_cases ha : m = a + 1
    · exact merge_one w0 B N c a m bb Rv rk d w H hC hP ha
    by_cases hb : bb = m + 1
    · exact merge_two w0 B N c a m bb Rv rk d w H hC hP (by have := hP.am; omega) hb
    by_cases hgt : (a + bb) / 2 < m
    · exact merge_hi dd ih w0 B N c a m bb Rv rk d w H hC hP hd ha hb hgt
    · exact merge_lo dd ih w0 B N c a m bb Rv rk d w H hC hP hd ha hb hgt
end Go.Proofs.Ytmdlcalnncncjaa

/- The insertion sort of pairs: stable. -/
set_option linter.unusedVariables false
set_option linter.unusedSimpArgs false
namespace Go.Proofs.Ytmdlcalnncncjaa
open Go.RowKit
set_option maxHeartbeats 4000000 in
set_option maxRecDepth 100000 in
theorem ins_any (w0 : World) (B N c a b Rv : Nat) (rk : ByteArray → Int) (d : Array Eo) (w : World) (H : Sw w0 B d w) (hC : CmpOk w0 B Rv rk) (hN : N = d.size) (h4 : N ≤ 1000) (hab : a ≤ b) (hbN : b ≤ N) (hup : ∀ i j, a ≤ i → i < j → j < b → d[i]!.ix < d[j]!.ix) :
    Calls Try.prog 122 #[.slice (some ⟨B, 0, none⟩) N c, .int .i64 a, .int .i64 b, cmpV Rv] w fun e w' => e = .returned (.tuple #[]) ∧ ∃ d', Sw w0 B d' w' ∧ St.Mrg (rkE rk) Eo.ix d d' a b := by
  have HN0 := Lib.hid hN
  have HH := Lib.hid H
  have HUP := Lib.hid hup
  clear hN H hup
  by_cases hlen : b ≤ a + 1
  · have HF : Hid (St.Mrg (rkE rk) Eo.ix d d a b) := Lib.hid ⟨Go.Sort.permIn_refl _ _ _, St.Srt.one hlen⟩
    go_enter Try.func122, Try.ntmps122
    go_wp2_with fail
    go_loopw [8] (fun iv wr => iv = .int .i64 (a + 1 : Nat) ∧ w = wr) (fun _ _ => 0)
    case atStart => exact ⟨by go_num, rfl⟩
    case round =>
      obtain ⟨rfl, rfl⟩ := hrel
      go_wp2_with fail
      go_end0
      exact ⟨rfl, d, HH.out, HF.out⟩
  · go_enter Try.func122, Try.ntmps122
    go_wp2_with fail
    go_loopw [8] (fun iv wr => ∃ (i : Nat) (dk : Array Eo), iv = .int .i64 i ∧ a + 1 ≤ i ∧ i ≤ b ∧ Sw w0 B dk wr ∧ St.Mrg (rkE rk) Eo.ix d dk a i) (fun iv _ => b - (intOf iv).toNat)
    case atStart => exact ⟨a + 1, d, by go_num, Nat.le_refl _, by omega, HH.out, Go.Sort.permIn_refl _ _ _, St.Srt.one (Nat.le_refl _)⟩
    case round =>
      obtain ⟨i, dk, rfl, hi, hib, hS, hM⟩ := hrel
      have HS := Lib.hid hS
      have HM := Lib.hid hM
      have HN : Hid (N = dk.size) := Lib.hid (by rw [hM.1.1]; exact HN0.out)
      clear hS hM
      by_cases hlt : i < b
      · have HOLD : Hid (St.Old Eo.ix dk a i (i + 1)) := Lib.hid (fun x y x1 x2 y1 y2 => by
          obtain rfl : y = i := by omega
          rw [HM.out.1.2.1 y (.inr (Nat.le_refl _))]
          exact Go.Sort.permIn_all d dk a y (fun v => v.ix < d[y]!.ix) (by have := HN0.out; omega) HM.out.1 (fun q q1 q2 => HUP.out q y q1 q2 hlt) x x1 x2)
        go_wp2_with fail
        go_loopw [9] (fun jv wt => ∃ (j : Nat) (dj : Array Eo), jv = .int .i64 j ∧ a ≤ j ∧ j ≤ i ∧ Sw w0 B dj wt ∧ St.Rot dk dj j i (i + 1) ∧ Go.Sort.PermIn a (i + 1) dk dj ∧ (j < i → St.le (rkE rk) Eo.ix dk[i]! dk[j]!)) (fun jv _ => (intOf jv).toNat)
        case atStart => exact ⟨i, dk, rfl, by omega, Nat.le_refl _, HS.out, St.Rot.nil (.inl rfl) (Nat.le_refl _) (by omega), Go.Sort.permIn_refl _ _ _, fun h => absurd h (Nat.lt_irrefl _)⟩
        case round =>
          clear HS
          obtain ⟨j, dj, rfl, hja, hji, hS, hR, hQ, hL⟩ := hrel
          have HS := Lib.hid hS
          have HR := Lib.hid hR
          have HQ := Lib.hid hQ
          have HL := Lib.hid hL
          have HSZ : Hid (N = dj.size) := Lib.hid (by rw [hR.1]; exact HN.out)
          have HFIN := Lib.hid (show (a < j → St.le (rkE rk) Eo.ix dk[j - 1]! dk[i]!) → St.Mrg (rkE rk) Eo.ix d dj a (i + 1) from fun hy => by
            have h8 := St.Mrg.of_ins hR hQ hja hji (by omega) (Nat.le_refl _) HM.out.2 (St.Srt.one (Nat.le_refl _)) HOLD.out (fun _ h => absurd h (Nat.lt_irrefl _)) (fun _ h => hL h) (fun _ h => absurd h (Nat.lt_irrefl _)) (fun h _ => hy h)
            exact ⟨Go.Sort.permIn_trans _ _ _ _ _ (Go.Sort.permIn_mono _ _ _ _ _ _ (Nat.le_refl _) (by omega) (by have := HN0.out; omega) HM.out.1) h8.1, h8.2⟩)
          have HEJ : Hid (dj[j]! = dk[i]!) := Lib.hid (by rw [hR.2 j, St.src_l (Nat.le_refl _) (by omega) hji (by omega), Nat.sub_self, Nat.add_zero])
          clear hS hR hQ hL
          by_cases hja2 : a < j
          · obtain ⟨q, hq⟩ : ∃ q : Nat, q = j - 1 := ⟨_, rfl⟩
            have hqj : (j : Int) - 1 = (q : Int) := by omega
            have hqlt : q < j := by omega
            have hqa : a ≤ q := by omega
            have hwq : IntKind.i64.wrap (q : Int) = (q : Int) := by rw [IntKind.wrap_i64]; omega
            have HQE := Lib.hid hq
            have HEQ : Hid (dj[q]! = dk[q]!) := Lib.hid (by rw [HR.out.2 q, St.src_out (.inl hqlt)])
            have hj3 : (a : Int) < (j : Int) := by omega
            clear hq
            obtain ⟨p0, p1, p2, p3, p4, p5⟩ := HS.out.at_ j (by have := HSZ.out; omega)
            obtain ⟨q0, q1, q2, q3, q4, q5⟩ := HS.out.at_ q (by have := HSZ.out; omega)
            have HKS := Lib.hid (show dj[j]!.key.size ≤ maxLen ∧ dj[q]!.key.size ≤ maxLen from ⟨HS.out.key _ (by have := HSZ.out; omega), HS.out.key _ (by have := HSZ.out; omega)⟩)
            obtain ⟨z, hz⟩ : ∃ z, z = cmpI (rk dj[j]!.key) (rk dj[q]!.key) := ⟨_, rfl⟩
            have HZ := Lib.hid (show z < 0 ↔ rkE rk dj[j]! < rkE rk dj[q]! from by rw [hz]; exact cmpI_lt _ _)
            have KC := Lib.hid (show ∀ wx, Below wr.heap.size wr wx → Calls Try.prog 82 #[.agg #[.string dj[j]!.key, .int .i64 dj[j]!.u.k, .int .i64 dj[j]!.u.n, .string dj[j]!.u.s, .slice dj[j]!.u.A dj[j]!.u.la dj[j]!.u.lc, .slice dj[j]!.u.F dj[j]!.u.lf dj[j]!.u.fc], .agg #[.string dj[q]!.key, .int .i64 dj[q]!.u.k, .int .i64 dj[q]!.u.n, .string dj[q]!.u.s, .slice dj[q]!.u.A dj[q]!.u.la dj[q]!.u.lc, .slice dj[q]!.u.F dj[q]!.u.lf dj[q]!.u.fc], .pointer (some ⟨Rv, 0, none⟩)] wx fun e w' => e = .returned (.int .i64 z) ∧ Below wx.heap.size wx w' from fun wx hb => by rw [hz]; exact hC wx (HS.out.go hb).kp _ _ _ _ HKS.out.1 HKS.out.2)
            generalize dj[j]!.key = k1 at p0 KC
            generalize dj[j]!.u = u1 at p1 p2 p3 p4 p5 KC
            generalize dj[q]!.key = k2 at q0 KC
            generalize dj[q]!.u = u2 at q1 q2 q3 q4 q5 KC
            have hb1 : (j : Int) < (N : Int) := by omega
            have hb2 : (q : Int) < (N : Int) := by omega
            clear hz
            go_wp2_with fail
            go_still_tail 14, (by kernel_rfl)
            change wpList _ _ _ _ _ wr.drew
            have hbd : Below wr.heap.size wr wr.drew := (Below.refl _ _).drew
            generalize wr.drew = w2 at hbd ⊢
            have HBD := Lib.hid hbd
            clear hbd
            go_wp2_with fail
            refine (KC.out w2 HBD.out).mono ?_
            rintro e w3 ⟨rfl, hb4⟩
            have HS3 := Lib.hid (HS.out.go (HBD.out.trans (hb4.mono HBD.out.size)))
            clear hb4 KC p0 p1 p2 p3 p4 p5 q0 q1 q2 q3 q4 q5
            by_cases hzn : z < 0
            · have hzd : decide (z < 0) = true := decide_eq_true hzn
              have HLE : Hid (St.le (rkE rk) Eo.ix dk[i]! dk[q]!) := Lib.hid (by rw [← HEJ.out, ← HEQ.out]; exact St.le_of_lt (HZ.out.1 hzn))
              generalize w3 = wr at HS3 ⊢
              have HS := HS3
              obtain ⟨x0, x1, x2, x3, x4, x5⟩ := HS.out.at_ j (by have := HSZ.out; omega)
              obtain ⟨y0, y1, y2, y3, y4, y5⟩ := HS.out.at_ q (by have := HSZ.out; omega)
              obtain ⟨k1, hk1⟩ : ∃ kk, kk = dj[j]!.key := ⟨_, rfl⟩
              obtain ⟨u1, hu1⟩ : ∃ kk, kk = dj[j]!.u := ⟨_, rfl⟩
              obtain ⟨k2, hk2⟩ : ∃ kk, kk = dj[q]!.key := ⟨_, rfl⟩
              obtain ⟨u2, hu2⟩ : ∃ kk, kk = dj[q]!.u := ⟨_, rfl⟩
              rw [← hk1] at x0
              rw [← hu1] at x1 x2 x3 x4 x5
              rw [← hk2] at y0
              rw [← hu2] at y1 y2 y3 y4 y5
              have HE := Lib.hid (show k1 = dj[j]!.key ∧ u1 = dj[j]!.u ∧ k2 = dj[q]!.key ∧ u2 = dj[q]!.u from ⟨hk1, hu1, hk2, hu2⟩)
              clear hk1 hu1 hk2 hu2
              have hf := HS.out.frz
              go_wp2_with fail
              go_region
              have hs2 : Sw w0 B (Go.Sort.swp dj j q) ((((((((((((wr.setCell ⟨B, j * 6, none⟩ (.string k2)).setCell ⟨B, j * 6 + 1, none⟩ (.int .i64 u2.k)).setCell ⟨B, j * 6 + 2, none⟩ (.int .i64 u2.n)).setCell ⟨B, j * 6 + 3, none⟩ (.string u2.s)).setCell ⟨B, j * 6 + 4, none⟩ (.slice u2.A u2.la u2.lc)).setCell ⟨B, j * 6 + 5, none⟩ (.slice u2.F u2.lf u2.fc)).setCell ⟨B, q * 6, none⟩ (.string k1)).setCell ⟨B, q * 6 + 1, none⟩ (.int .i64 u1.k)).setCell ⟨B, q * 6 + 2, none⟩ (.int .i64 u1.n)).setCell ⟨B, q * 6 + 3, none⟩ (.string u1.s)).setCell ⟨B, q * 6 + 4, none⟩ (.slice u1.A u1.la u1.lc)).setCell ⟨B, q * 6 + 5, none⟩ (.slice u1.F u1.lf u1.fc)).drew := HS.out.swap (by have := HSZ.out; omega) (by have := HSZ.out; omega) (by omega) HE.out
              generalize ((((((((((((wr.setCell ⟨B, j * 6, none⟩ (.string k2)).setCell ⟨B, j * 6 + 1, none⟩ (.int .i64 u2.k)).setCell ⟨B, j * 6 + 2, none⟩ (.int .i64 u2.n)).setCell ⟨B, j * 6 + 3, none⟩ (.string u2.s)).setCell ⟨B, j * 6 + 4, none⟩ (.slice u2.A u2.la u2.lc)).setCell ⟨B, j * 6 + 5, none⟩ (.slice u2.F u2.lf u2.fc)).setCell ⟨B, q * 6, none⟩ (.string k1)).setCell ⟨B, q * 6 + 1, none⟩ (.int .i64 u1.k)).setCell ⟨B, q * 6 + 2, none⟩ (.int .i64 u1.n)).setCell ⟨B, q * 6 + 3, none⟩ (.string u1.s)).setCell ⟨B, q * 6 + 4, none⟩ (.slice u1.A u1.la u1.lc)).setCell ⟨B, q * 6 + 5, none⟩ (.slice u1.F u1.lf u1.fc)).drew = w2 at hs2 ⊢
              have HS2 := Lib.hid hs2
              clear hs2 hf x0 x1 x2 x3 x4 x5 y0 y1 y2 y3 y4 y5
              go_wp2_with fail
              refine ⟨⟨q, Go.Sort.swp dj j q, by go_num, hqa, by omega, HS2.out, ?_, ?_, fun _ => HLE.out⟩, by simp [intOf]; omega⟩
              · rw [HQE.out]
                exact HR.out.down hji (by omega) (by have := HN.out; omega)
              · refine Go.Sort.permIn_trans _ _ _ _ _ HQ.out (Go.Sort.swp_permIn _ _ _ _ _ ?_ ?_ ?_ ?_ ?_)
                all_goals (have h9 := HSZ.out; omega)
            · have hzd : decide (z < 0) = false := decide_eq_false hzn
              have HMM : Hid (St.Mrg (rkE rk) Eo.ix d dj a (i + 1)) := Lib.hid (HFIN.out fun _ => by
                rw [← HQE.out, ← HEJ.out, ← HEQ.out]
                refine St.le_of_not (fun h => hzn (HZ.out.2 h)) ?_
                rw [HEJ.out, HEQ.out]
                exact HOLD.out q i hqa (by omega) (Nat.le_refl _) (Nat.lt_succ_self _))
              go_wp2_with fail
              exact ⟨⟨i + 1, dj, by go_num, by omega, by omega, HS3.out, HMM.out⟩, by simp [intOf]; omega⟩
          · have hj3 : ¬ (a : Int) < (j : Int) := by omega
            have hj4 : decide ((j : Int) > (a : Int)) = false := decide_eq_false (by omega)
            have HMM := Lib.hid (HFIN.out fun h => absurd h hja2)
            go_wp2_with fail
            go_region
            all_goals go_wp2_with fail
            all_goals exact ⟨⟨i + 1, dj, by go_num, by omega, by omega, HS.out.go ((Below.refl _ _).drew), HMM.out⟩, by simp [intOf]; omega⟩
      · obtain rfl : i = b := by omega
        go_wp2_with fail
        go_end0
        exact ⟨rfl, dk, HS.out, HM.out⟩
end Go.Proofs.Ytmdlcalnncncjaa

/- A stable sort of blocks: what is sorted when; plain. -/
set_option linter.unusedVariables false
set_option linter.unusedSimpArgs false
namespace Go.Proofs.Ytmdlcalnncncjaa.St
open Go.Sort
variable {α : Type} [Inhabited α]
/-- All ahead of x is older than what stands from x on. -/
def OldAt (ix : α → Nat) (d : Array α) (N x : Nat) : Prop := ∀ i j, i < x → x ≤ j → j < N → ix d[i]! < ix d[j]!
variable {rk : α → Int} {ix : α → Nat}
theorem OldAt.perm {d d' : Array α} {N x a b : Nat} (h : OldAt ix d N x) (hp : PermIn a b d d') (hN : N = d.size) (hb : b ≤ N) (hx : x ≤ a ∨ b ≤ x) : OldAt ix d' N x := by
  intro i j hi hj hjN
  rcases hx with hx | hx
  · rw [hp.2.1 i (.inl (by omega))]
    by_cases e : a ≤ j ∧ j < b
    · exact permIn_all d d' a b (fun v => ix d[i]! < ix v) (by omega) hp (fun q q1 q2 => h i q hi (by omega) (by omega)) j e.1 e.2
    · rw [hp.2.1 j (by omega)]
      exact h i j hi hj hjN
  · rw [hp.2.1 j (.inr (by omega))]
    by_cases e : a ≤ i ∧ i < b
    · exact permIn_all d d' a b (fun v => ix v < ix d[j]!) (by omega) hp (fun q q1 q2 => h q j (by omega) hj hjN) i e.1 e.2
    · rw [hp.2.1 i (by omega)]
      exact h i j hi hj hjN
theorem OldAt.old {d : Array α} {N a m b : Nat} (h : OldAt ix d N m) (hb : b ≤ N) : Old ix d a m b := fun i j _ y z w => h i j y z (by omega)
theorem Srt.perm {d d' : Array α} {lo hi a b : Nat} (h : Srt rk ix d lo hi) (hp : PermIn a b d d') (hx : hi ≤ a ∨ b ≤ lo) : Srt rk ix d' lo hi := h.congr fun i x y => hp.2.1 i (by omega)
theorem mulmono {s t u : Nat} (h : t ≤ u) : s * t ≤ s * u := Nat.mul_le_mul_left s h
/-- Blocks of s, each sorted; each older than the next. -/
structure Blk (rk : α → Int) (ix : α → Nat) (d : Array α) (N s : Nat) : Prop where
  srt : ∀ t, Srt rk ix d (s * t) (min (s * (t + 1)) N)
  old : ∀ t, OldAt ix d N (s * t)
/-- The first k blocks are sorted, the others as they were. -/
structure Fst (rk : α → Int) (ix : α → Nat) (d0 d : Array α) (N s k : Nat) : Prop where
  n : N = d.size
  p : PermIn 0 N d0 d
  srt : ∀ t, t < k → Srt rk ix d (s * t) (s * (t + 1))
  e : ∀ q, s * k ≤ q → d[q]! = d0[q]!
  old : ∀ t, OldAt ix d N (s * t)
theorem Fst.start {d0 : Array α} {N s : Nat} (hn : N = d0.size) (hu : ∀ i j, i < j → j < N → ix d0[i]! < ix d0[j]!) : Fst rk ix d0 d0 N s 0 := ⟨hn, permIn_refl _ _ _, fun t h => by omega, fun _ _ => rfl, fun t i j x y z => hu i j (by omega) z⟩
theorem Fst.step {d0 d d' : Array α} {N s k a b : Nat} (h : Fst rk ix d0 d N s k) (ha : a = s * k) (hb : b = a + s) (hbN : b ≤ N) (hm : Mrg rk ix d d' a b) : Fst rk ix d0 d' N s (k + 1) := by
  have e1 : s * (k + 1) = b := by rw [Nat.mul_succ]; omega
  have hN := h.n
  refine ⟨h.n.trans hm.1.1.symm, permIn_trans _ _ _ _ _ h.p (permIn_mono _ _ _ _ _ _ (Nat.zero_le _) hbN (by omega) hm.1), fun t ht => ?_, fun q hq => ?_, fun t => ?_⟩
  · by_cases e : t < k
    · exact (h.srt t e).perm hm.1 (.inl (by have := mulmono (s := s) (show t + 1 ≤ k from e); omega))
    · obtain rfl : t = k := by omega
      rw [e1, ← ha]
      exact hm.2
  · rw [hm.1.2.1 q (.inr (by omega))]
    exact h.e q (by omega)
  · refine (h.old t).perm hm.1 h.n hbN ?_
    by_cases e : t ≤ k
    · exact .inl (by have := mulmono (s := s) e; omega)
    · exact .inr (by have := mulmono (s := s) (show k + 1 ≤ t by omega); omega)
theorem Fst.last {d0 d d' : Array α} {N s k a : Nat} (h : Fst rk ix d0 d N s k) (ha : a = s * k) (haN : a ≤ N) (hb : N < a + s) (hm : Mrg rk ix d d' a N) : Blk rk ix d' N s ∧ PermIn 0 N d0 d' := by
  have e1 : s * (k + 1) = a + s := by rw [Nat.mul_succ]; omega
  have hN := h.n
  refine ⟨⟨fun t => ?_, fun t => ?_⟩, permIn_trans _ _ _ _ _ h.p (permIn_mono _ _ _ _ _ _ (Nat.zero_le _) (Nat.le_refl _) (by omega) hm.1)⟩
  · by_cases e : t < k
    · have h8 := mulmono (s := s) (show t + 1 ≤ k from e)
      rw [Nat.min_eq_left (by omega)]
      exact (h.srt t e).perm hm.1 (.inl (by omega))
    · by_cases e2 : t = k
      · subst e2
        rw [Nat.min_eq_right (by omega), ← ha]
        exact hm.2
      · have h8 := mulmono (s := s) (show k + 1 ≤ t by omega)
        exact fun i j x y z => by omega
  · refine (h.old t).perm hm.1 h.n (Nat.le_refl _) ?_
    by_cases e : t ≤ k
    · exact .inl (by have := mulmono (s := s) e; omega)
    · exact .inr (by have := mulmono (s := s) (show k + 1 ≤ t by omega); omega)
/-- The first k pairs of blocks are merged. -/
structure Md (rk : α → Int) (ix : α → Nat) (d0 d : Array α) (N s k : Nat) : Prop where
  n : N = d.size
  p : PermIn 0 N d0 d
  s1 : ∀ t, t < k → Srt rk ix d (s * (2 * t)) (s * (2 * t + 2))
  s2 : ∀ t, 2 * k ≤ t → Srt rk ix d (s * t) (min (s * (t + 1)) N)
  o1 : ∀ t, 2 * k ≤ t → OldAt ix d N (s * t)
  o2 : ∀ t, OldAt ix d N (s * (2 * t))
theorem Md.start {d0 d : Array α} {N s : Nat} (h : Blk rk ix d N s) (hn : N = d.size) (hp : PermIn 0 N d0 d) : Md rk ix d0 d N s 0 := ⟨hn, hp, fun t h => by omega, fun t _ => h.srt t, fun t _ => h.old t, fun t => h.old _⟩
theorem Md.pre {d0 d : Array α} {N s k a : Nat} (h : Md rk ix d0 d N s k) (ha : a = s * (2 * k)) (b : Nat) (hb : b = min (a + 2 * s) N) (hm : a + s ≤ N) : Srt rk ix d a (a + s) ∧ Srt rk ix d (a + s) b ∧ Old ix d a (a + s) b := by
  have e1 : s * (2 * k + 1) = a + s := by rw [Nat.mul_succ]; omega
  have e2 : s * (2 * k + 1 + 1) = a + 2 * s := by rw [Nat.mul_succ]; omega
  have g1 := h.s2 (2 * k) (Nat.le_refl _)
  have g2 := h.s2 (2 * k + 1) (by omega)
  have g3 := h.o1 (2 * k + 1) (by omega)
  rw [e1, ← ha, Nat.min_eq_left hm] at g1
  rw [e1, e2, ← hb] at g2
  rw [e1] at g3
  exact ⟨g1, g2, g3.old (by omega)⟩
theorem Md.step {d0 d d' : Array α} {N s k a b : Nat} (h : Md rk ix d0 d N s k) (ha : a = s * (2 * k)) (hb : b = a + 2 * s) (hbN : b ≤ N) (hm : Mrg rk ix d d' a b) : Md rk ix d0 d' N s (k + 1) := by
  have e2 : s * (2 * k + 2) = b := by rw [Nat.mul_succ, Nat.mul_succ]; omega
  have hN := h.n
  refine ⟨h.n.trans hm.1.1.symm, permIn_trans _ _ _ _ _ h.p (permIn_mono _ _ _ _ _ _ (Nat.zero_le _) hbN (by omega) hm.1), fun t ht => ?_, fun t ht => ?_, fun t ht => ?_, fun t => ?_⟩
  · by_cases e : t < k
    · exact (h.s1 t e).perm hm.1 (.inl (by have := mulmono (s := s) (show 2 * t + 2 ≤ 2 * k by omega); omega))
    · obtain rfl : t = k := by omega
      rw [e2, ← ha]
      exact hm.2
  · exact (h.s2 t (by omega)).perm hm.1 (.inr (by have := mulmono (s := s) (show 2 * k + 2 ≤ t by omega); omega))
  · exact (h.o1 t (by omega)).perm hm.1 h.n hbN (.inr (by have := mulmono (s := s) (show 2 * k + 2 ≤ t by omega); omega))
  · refine (h.o2 t).perm hm.1 h.n hbN ?_
    by_cases e : t ≤ k
    · exact .inl (by have := mulmono (s := s) (show 2 * t ≤ 2 * k by omega); omega)
    · exact .inr (by have := mulmono (s := s) (show 2 * k + 2 ≤ 2 * t by omega); omega)
theorem Md.last {d0 d d' : Array α} {N s k a : Nat} (h : Md rk ix d0 d N s k) (ha : a = s * (2 * k)) (haN : a ≤ N) (hb : N < a + 2 * s) (hm : Mrg rk ix d d' a N) : Blk rk ix d' N (2 * s) ∧ PermIn 0 N d0 d' ∧ N = d'.size := by
  have e2 : s * (2 * k + 2) = a + 2 * s := by rw [Nat.mul_succ, Nat.mul_succ]; omega
  have e3 : ∀ t, 2 * s * t = s * (2 * t) := fun t => by rw [Nat.mul_comm 2 s, Nat.mul_assoc]
  have hN := h.n
  refine ⟨⟨fun t => ?_, fun t => ?_⟩, permIn_trans _ _ _ _ _ h.p (permIn_mono _ _ _ _ _ _ (Nat.zero_le _) (Nat.le_refl _) (by omega) hm.1), h.n.trans hm.1.1.symm⟩
  · rw [e3, e3, show 2 * (t + 1) = 2 * t + 2 by omega]
    by_cases e : t < k
    · have h8 := mulmono (s := s) (show 2 * t + 2 ≤ 2 * k by omega)
      rw [Nat.min_eq_left (by omega)]
      exact (h.s1 t e).perm hm.1 (.inl (by omega))
    · by_cases e4 : t = k
      · subst e4
        rw [Nat.min_eq_right (by omega), ← ha]
        exact hm.2
      · have h8 := mulmono (s := s) (show 2 * k + 2 ≤ 2 * t by omega)
        exact fun i j x y z => by omega
  · rw [e3]
    refine (h.o2 t).perm hm.1 h.n (Nat.le_refl _) ?_
    by_cases e : t ≤ k
    · exact .inl (by have := mulmono (s := s) (show 2 * t ≤ 2 * k by omega); omega)
    · exact .inr (by have := mulmono (s := s) (show 2 * k + 2 ≤ 2 * t by omega); omega)
theorem Md.none {d0 d : Array α} {N s k a : Nat} (h : Md rk ix d0 d N s k) (ha : a = s * (2 * k)) (haN : a ≤ N) (hm : N ≤ a + s) : Mrg rk ix d d a N := by
  have e1 : s * (2 * k + 1) = a + s := by rw [Nat.mul_succ]; omega
  have g1 := h.s2 (2 * k) (Nat.le_refl _)
  rw [e1, ← ha, Nat.min_eq_right hm] at g1
  exact ⟨permIn_refl _ _ _, g1⟩
theorem Blk.done {d : Array α} {N s : Nat} (h : Blk rk ix d N s) (hs : N ≤ s) : Srt rk ix d 0 N := by
  have := h.srt 0
  rw [Nat.mul_zero, Nat.zero_add, Nat.mul_one, Nat.min_eq_right hs] at this
  exact this
end Go.Proofs.Ytmdlcalnncncjaa.St

/- slices.SortStableFunc of pairs. -/
set_option linter.unusedVariables false
set_option linter.unusedSimpArgs false
namespace Go.Proofs.Ytmdlcalnncncjaa
open Go.RowKit
/-- What a stable sort leaves. -/
def StbR (w0 : World) (B N : Nat) (rk : ByteArray → Int) (d : Array Eo) (e : Ending) (w' : World) : Prop := e = .returned (.tuple #[]) ∧ ∃ d', Sw w0 B d' w' ∧ Go.Sort.PermIn 0 N d d' ∧ St.Srt (rkE rk) Eo.ix d' 0 N
set_option maxHeartbeats 4000000 in
set_option maxRecDepth 100000 in
theorem stab_any (w0 : World) (B N c Rv : Nat) (rk : ByteArray → Int) (d : Array Eo) (w : World) (H : Sw w0 B d w) (hC : CmpOk w0 B Rv rk) (hN : N = d.size) (h4 : N ≤ 1000) (hup : ∀ i j, i < j → j < N → d[i]!.ix < d[j]!.ix) :
    Calls Try.prog 108 #[.slice (some ⟨B, 0, none⟩) N c, .int .i64 N, cmpV Rv] w fun e w' => StbR w0 B N rk d e w' := by
  have HH := Lib.hid H
  have HN := Lib.hid hN
  have HUP := Lib.hid hup
  have HIN := Lib.hid (fun (lo hi : Nat) (dk : Array Eo) (wx : World) (hx : Sw w0 B dk wx) (hn : N = dk.size) (q1 : lo ≤ hi) (q2 : hi ≤ N) (q3 : ∀ i j, lo ≤ i → i < j → j < hi → dk[i]!.ix < dk[j]!.ix) => ins_any w0 B N c lo hi Rv rk dk wx hx hC hn h4 q1 q2 q3)
  have HSY := Lib.hid (fun (a m bb : Nat) (dk : Array Eo) (wx : World) (hx : Sw w0 B dk wx) (hp : Pre rk N dk a m bb) => merge_any 1000 w0 B N c a m bb Rv rk dk wx hx hC hp (by have := hp.bn; omega))
  clear H hN hup
  go_enter Try.func108, Try.ntmps108
  go_wp2_with fail
  go_loopw [7, 8] (fun av bv wr => ∃ (a k : Nat) (dk : Array Eo), av = .int .i64 a ∧ bv = .int .i64 (a + 20 : Nat) ∧ a = 20 * k ∧ a ≤ N ∧ Sw w0 B dk wr ∧ St.Fst (rkE rk) Eo.ix d dk N 20 k) (fun av _ _ => N + 20 - (intOf av).toNat)
  case atStart => exact ⟨0, 0, d, rfl, rfl, rfl, Nat.zero_le _, HH.out, St.Fst.start HN.out HUP.out⟩
  case round =>
    obtain ⟨a, k, dk, rfl, rfl, hak, ha, hS, hF⟩ := hrel
    have HS := Lib.hid hS
    have HF := Lib.hid hF
    have HA := Lib.hid hak
    have HU2 := Lib.hid (show ∀ i j, a ≤ i → i < j → j < N → dk[i]!.ix < dk[j]!.ix from fun i j x y z => by rw [hF.e i (by omega), hF.e j (by omega)]; exact HUP.out i j y z)
    clear hS hF hak
    obtain ⟨q, hq⟩ : ∃ q : Nat, q = a + 20 := ⟨_, rfl⟩
    rw [← hq]
    have hq1 : a < q := by omega
    have HQ := Lib.hid hq
    clear hq
    by_cases hlt : q ≤ N
    · go_wp2_with fail
      refine (HIN.out a q dk wr HS.out HF.out.n (by omega) hlt (fun i j x y z => HU2.out i j x y (by omega))).mono ?_
      rintro e w1 ⟨rfl, d1, hs1, hm1⟩
      have HS1 := Lib.hid hs1
      have HF1 := Lib.hid (HF.out.step HA.out (show q = a + 20 from HQ.out) hlt hm1)
      clear hs1 hm1
      go_wp2_with fail
      exact ⟨⟨q, k + 1, d1, rfl, by have := HQ.out; go_num, by have := HA.out; have := HQ.out; omega, hlt, HS1.out, HF1.out⟩, by simp [intOf]; omega⟩
    · go_wp2_with fail
      refine (HIN.out a N dk wr HS.out HF.out.n ha (Nat.le_refl _) HU2.out).mono ?_
      rintro e w1 ⟨rfl, d1, hs1, hm1⟩
      have HS1 := Lib.hid hs1
      have HB1 := Lib.hid (HF.out.last HA.out ha (by have := HQ.out; omega) hm1)
      have HN1 : Hid (N = d1.size) := Lib.hid (by rw [hm1.1.1]; exact HF.out.n)
      clear hs1 hm1
      go_wp2_with fail
      go_loopw [6] (fun sv wt => ∃ (bs : Nat) (dk : Array Eo), sv = .int .i64 bs ∧ 20 ≤ bs ∧ bs ≤ 2000 ∧ Sw w0 B dk wt ∧ St.Blk (rkE rk) Eo.ix dk N bs ∧ Go.Sort.PermIn 0 N d dk ∧ N = dk.size) (fun sv _ => 4000 - (intOf sv).toNat)
      case atStart => exact ⟨20, d1, rfl, Nat.le_refl _, by omega, HS1.out, HB1.out.1, HB1.out.2, HN1.out⟩
      case round =>
        clear HS1 HB1 HN1 HS HF HU2
        obtain ⟨bs, d2, rfl, hs1, hs2, hS, hB, hP, hn⟩ := hrel
        have HS := Lib.hid hS
        have HB := Lib.hid hB
        have HP := Lib.hid hP
        have HN2 := Lib.hid hn
        clear hS hB hP hn
        by_cases hbs : bs < N
        · have hmul : (2 : Int) * (bs : Int) = ((2 * bs : Nat) : Int) := by omega
          obtain ⟨b2, hb2⟩ : ∃ b2 : Nat, b2 = 2 * bs := ⟨_, rfl⟩
          rw [← hb2] at hmul
          have hb2a : bs < b2 := by omega
          have hb2c : b2 ≤ 2000 := by omega
          have HB2 := Lib.hid hb2
          clear hb2
          go_wp2_with fail
          go_loopw [7, 8] (fun av bv wt => ∃ (a k : Nat) (dk : Array Eo), av = .int .i64 a ∧ bv = .int .i64 (a + b2 : Nat) ∧ a = bs * (2 * k) ∧ a ≤ N ∧ Sw w0 B dk wt ∧ St.Md (rkE rk) Eo.ix d dk N bs k) (fun av _ _ => N + 2000 - (intOf av).toNat)
          case atStart => exact ⟨0, 0, d2, rfl, by simp, by simp, Nat.zero_le _, HS.out, St.Md.start HB.out HN2.out HP.out⟩
          case round =>
            clear HS HB HP HN2
            obtain ⟨a', k', d3, rfl, rfl, hak', ha', hS, hM⟩ := hrel
            have HS := Lib.hid hS
            have HM := Lib.hid hM
            have HA' := Lib.hid hak'
            clear hS hM hak'
            obtain ⟨q2, hq2⟩ : ∃ q2 : Nat, q2 = a' + b2 := ⟨_, rfl⟩
            obtain ⟨m2, hm2⟩ : ∃ m2 : Nat, m2 = a' + bs := ⟨_, rfl⟩
            rw [← hq2]
            have hms : (a' : Int) + (bs : Int) = (m2 : Int) := by omega
            have hm3 : a' < m2 := by omega
            have hm4 : m2 < q2 := by omega
            have hq3 : q2 ≤ a' + 2000 := by omega
            have HQ2 := Lib.hid hq2
            have HM2 := Lib.hid hm2
            clear hq2 hm2
            by_cases hlt2 : q2 ≤ N
            · have HPRE : Hid (Pre rk N d3 a' m2 q2) := Lib.hid (by
                have h8 := HM.out.pre HA'.out q2 (by have := HQ2.out; have := HB2.out; omega) (by have := HM2.out; omega)
                rw [← HM2.out] at h8
                exact ⟨HM.out.n, hm3, hm4, hlt2, h4, h8.1, h8.2.1, h8.2.2⟩)
              go_wp2_with fail
              refine (HSY.out a' m2 q2 d3 wr HS.out HPRE.out).mono ?_
              rintro e w1 ⟨rfl, d4, hs4, hm4'⟩
              have HS4 := Lib.hid hs4
              have HM4 := Lib.hid (HM.out.step HA'.out (show q2 = a' + 2 * bs by have := HQ2.out; have := HB2.out; omega) hlt2 hm4')
              clear hs4 hm4'
              go_wp2_with fail
              exact ⟨⟨q2, k' + 1, d4, rfl, by have := HQ2.out; have := HB2.out; go_num, by have h1 := HA'.out; have h2 := HQ2.out; have h3 := HB2.out; rw [show 2 * (k' + 1) = 2 * k' + 2 by omega, Nat.mul_succ, Nat.mul_succ]; omega, hlt2, HS4.out, HM4.out⟩, by simp [intOf]; omega⟩
            · by_cases hml : m2 < N
              · have HPRE : Hid (Pre rk N d3 a' m2 N) := Lib.hid (by
                  have h8 := HM.out.pre HA'.out N (by have := HQ2.out; have := HB2.out; omega) (by have := HM2.out; omega)
                  rw [← HM2.out] at h8
                  exact ⟨HM.out.n, hm3, hml, Nat.le_refl _, h4, h8.1, h8.2.1, h8.2.2⟩)
                go_wp2_with fail
                refine (HSY.out a' m2 N d3 wr HS.out HPRE.out).mono ?_
                rintro e w1 ⟨rfl, d4, hs4, hm4'⟩
                have HS4 := Lib.hid hs4
                have HM4 := Lib.hid (HM.out.last HA'.out ha' (by have := HQ2.out; have := HB2.out; omega) hm4')
                clear hs4 hm4'
                go_wp2_with fail
                exact ⟨⟨b2, d4, by rw [show ((bs : Int) * 2) = (b2 : Int) by have := HB2.out; omega], by omega, by omega, HS4.out, by rw [HB2.out]; exact HM4.out.1, HM4.out.2.1, HM4.out.2.2⟩, by have := HB2.out; simp [intOf]; omega⟩
              · have HM4 := Lib.hid (HM.out.last HA'.out ha' (by have := HQ2.out; have := HB2.out; omega) (HM.out.none HA'.out ha' (by have := HM2.out; omega)))
                go_wp2_with fail
                exact ⟨⟨b2, d3, by rw [show ((bs : Int) * 2) = (b2 : Int) by have := HB2.out; omega], by omega, by omega, HS.out, by rw [HB2.out]; exact HM4.out.1, HM4.out.2.1, HM4.out.2.2⟩, by have := HB2.out; simp [intOf]; omega⟩
        · have HDONE := Lib.hid (HB.out.done (by omega))
          go_wp2_with fail
          go_end0
          exact ⟨rfl, d2, HS.out, HP.out, HDONE.out⟩
theorem sort_any (w0 : World) (B N c Rv : Nat) (rk : ByteArray → Int) (d : Array Eo) (w : World) (H : Sw w0 B d w) (hC : CmpOk w0 B Rv rk) (hN : N = d.size) (h4 : N ≤ 1000) (hup : ∀ i j, i < j → j < N → d[i]!.ix < d[j]!.ix) :
    Calls Try.prog 81 #[.slice (some ⟨B, 0, none⟩) N c, cmpV Rv] w fun e w' => StbR w0 B N rk d e w' := by
  have HS := Lib.hid (stab_any w0 B N c Rv rk d w H hC hN h4 hup)
  clear H hC hN hup
  go_enter Try.func81, Try.ntmps81
  go_wp2_with fail
  refine HS.out.mono ?_
  rintro e w1 ⟨rfl, hb1⟩
  have HB1 := Lib.hid hb1
  clear hb1 HS
  go_wp2_with fail
  go_end0
  exact ⟨rfl, HB1.out⟩
end Go.Proofs.Ytmdlcalnncncjaa

/- Pairs in the order of keys; plain. -/
set_option linter.unusedVariables false
set_option linter.unusedSimpArgs false
namespace Go.Proofs.Ytmdlcalnncncjaa
open Go.RowKit
/-- A key's rank: its place among the keys, or behind all. -/
def rkK (keys : List ByteArray) (key : ByteArray) : Int := match kIdx keys key with
  | some i => (i : Int)
  | none => (keys.length : Int)
theorem kIdx_at {ks : List ByteArray} {key : ByteArray} {i : Nat} (hn : ks.Nodup) (h : ks[i]? = some key) : kIdx ks key = some i := by
  cases hk : kIdx ks key with
  | none => exact absurd (List.mem_of_getElem? h) (kIdx_none.1 hk)
  | some j =>
    have h2 := (kIdx_some hk).1
    have hi := (List.getElem?_eq_some_iff.1 h).1
    have hj := (List.getElem?_eq_some_iff.1 h2).1
    rw [(List.getElem?_inj hi hn).1 (h.trans h2.symm)]
theorem RankP.rk {keys : List ByteArray} {key : ByteArray} {n : Int} (hn : keys.Nodup) (h : RankP keys key n) : n = rkK keys key := by
  unfold rkK
  rcases h with ⟨i, rfl, hi⟩ | ⟨rfl, hi⟩
  · rw [kIdx_at hn hi]
  · rw [kIdx_none.2 hi]
theorem rk_in {keys : List ByteArray} {key : ByteArray} {i : Nat} (hn : keys.Nodup) (h : keys[i]? = some key) : rkK keys key = i := by unfold rkK; rw [kIdx_at hn h]
theorem rk_out {keys : List ByteArray} {key : ByteArray} (h : key ∉ keys) : rkK keys key = keys.length := by unfold rkK; rw [kIdx_none.2 h]
theorem rk_lt {keys : List ByteArray} {key : ByteArray} (h : key ∈ keys) : rkK keys key < keys.length := by
  unfold rkK
  cases hk : kIdx keys key with
  | none => exact absurd h (kIdx_none.1 hk)
  | some i => have := (List.getElem?_eq_some_iff.1 (kIdx_some hk).1).1; simp only; omega
/-- The pairs in the order of keys. -/
def ordE (keys : List ByteArray) (D : List Eo) : List Eo := keys.filterMap (fun key => D.find? fun e : Eo => decide (e.key = key)) ++ D.filter fun e : Eo => (kIdx keys e.key).isNone
/-- Ahead: by rank, by place. -/
def Ahd (keys : List ByteArray) (x y : Eo) : Prop := rkK keys x.key < rkK keys y.key ∨ (rkK keys x.key = rkK keys y.key ∧ x.ix < y.ix)
theorem sorted_one {keys : List ByteArray} : ∀ {A B : List Eo}, A.Perm B → A.Pairwise (Ahd keys) → B.Pairwise (Ahd keys) → A = B
  | [], B, h, _, _ => by rw [List.nil_perm.1 h]
  | x :: A, [], h, _, _ => by have := h.length_eq; simp at this
  | x :: A, y :: B, h, h1, h2 => by
    rw [List.pairwise_cons] at h1 h2
    have hx : x ∈ y :: B := h.mem_iff.1 (by simp)
    have hy : y ∈ x :: A := h.mem_iff.2 (by simp)
    have e : x = y := by
      rcases List.mem_cons.1 hx with e | hx
      · exact e
      · rcases List.mem_cons.1 hy with e | hy
        · exact e.symm
        · have a1 := h1.1 y hy
          have a2 := h2.1 x hx
          unfold Ahd at a1 a2
          omega
    subst e
    rw [sorted_one (List.Perm.cons_inv h) h1.2 h2.2]
theorem find_key {D : List Eo} {key : ByteArray} {e : Eo} (h : D.find? (fun e => decide (e.key = key)) = some e) : e ∈ D ∧ e.key = key := by
  have h2 := List.find?_some h
  exact ⟨List.mem_of_find?_eq_some h, by simpa using h2⟩
theorem find_of {D : List Eo} {e : Eo} (hn : (D.map Eo.key).Nodup) (he : e ∈ D) : D.find? (fun x => decide (x.key = e.key)) = some e := by
  induction D with
  | nil => simp at he
  | cons x r ih =>
    rw [List.map_cons, List.nodup_cons] at hn
    rcases List.mem_cons.1 he with rfl | he
    · simp
    · have hne : ¬ x.key = e.key := fun q => hn.1 (by rw [q]; exact List.mem_map_of_mem he)
      rw [List.find?_cons_of_neg (by simpa using hne)]
      exact ih hn.2 he
theorem ordE_pairs {keys : List ByteArray} {D : List Eo} (hk : keys.Nodup) (hi : D.Pairwise fun x y => x.ix < y.ix) : (ordE keys D).Pairwise (Ahd keys) := by
  unfold ordE
  rw [List.pairwise_append]
  refine ⟨?_, ?_, ?_⟩
  · rw [List.pairwise_filterMap, List.pairwise_iff_getElem]
    intro i j hi hj hij x hx y hy
    obtain ⟨-, e1⟩ := find_key hx
    obtain ⟨-, e2⟩ := find_key hy
    have r1 := rk_in hk (List.getElem?_eq_getElem hi)
    have r2 := rk_in hk (List.getElem?_eq_getElem hj)
    refine .inl ?_
    rw [e1, e2, r1, r2]
    omega
  · rw [List.pairwise_filter]
    refine hi.imp fun {x y} h => ?_
    intro hx hy
    rw [Option.isNone_iff_eq_none, kIdx_none] at hx hy
    exact .inr ⟨by rw [rk_out hx, rk_out hy], h⟩
  · intro x hx y hy
    obtain ⟨key, hkey, hf⟩ := List.mem_filterMap.1 hx
    obtain ⟨-, e1⟩ := find_key hf
    have h2 := (List.mem_filter.1 hy).2
    rw [Option.isNone_iff_eq_none, kIdx_none] at h2
    refine .inl ?_
    rw [e1, rk_out h2]
    exact rk_lt hkey
theorem ahd_nodup {keys : List ByteArray} {A : List Eo} (h : A.Pairwise (Ahd keys)) : A.Nodup := h.imp fun {x y} q e => by
  subst e
  unfold Ahd at q
  omega
theorem ordE_perm {keys : List ByteArray} {D : List Eo} (hk : keys.Nodup) (hn : (D.map Eo.key).Nodup) (hi : D.Pairwise fun x y => x.ix < y.ix) : (ordE keys D).Perm D := by
  refine (List.perm_ext_iff_of_nodup (ahd_nodup (ordE_pairs hk hi)) ?_).2 fun e => ⟨fun h => ?_, fun h => ?_⟩
  · exact hi.imp fun {x y} q e => by subst e; exact Nat.lt_irrefl _ q
  · unfold ordE at h
    rcases List.mem_append.1 h with h | h
    · obtain ⟨key, -, hf⟩ := List.mem_filterMap.1 h
      exact (find_key hf).1
    · exact (List.mem_filter.1 h).1
  · unfold ordE
    by_cases q : e.key ∈ keys
    · exact List.mem_append_left _ (List.mem_filterMap.2 ⟨e.key, q, find_of hn h⟩)
    · exact List.mem_append_right _ (List.mem_filter.2 ⟨h, by rw [Option.isNone_iff_eq_none, kIdx_none]; exact q⟩)
/-- What a stable sort by rank leaves is that order. -/
theorem sorted_ordE {keys : List ByteArray} {d d' : Array Eo} (hk : keys.Nodup) (hn : (d.toList.map Eo.key).Nodup) (hi : ∀ i j, i < j → j < d.size → d[i]!.ix < d[j]!.ix) (hp : Go.Sort.PermIn 0 d.size d d') (hs : St.Srt (rkE (rkK keys)) Eo.ix d' 0 d.size) : d'.toList = ordE keys d.toList := by
  have hpl : d'.toList.Perm d.toList := by
    obtain ⟨h1, _, h3⟩ := hp
    rw [Array.extract_size] at h3
    rw [← h1, Array.extract_size] at h3
    exact h3
  have hsz : d'.size = d.size := hp.1
  have hid : d.toList.Pairwise fun x y => x.ix < y.ix := by
    rw [List.pairwise_iff_getElem]
    intro i j hi1 hj1 hij
    have := hi i j hij (by simpa using hj1)
    rw [getElem!_pos d i (by simpa using hi1), getElem!_pos d j (by simpa using hj1)] at this
    simpa using this
  refine sorted_one (keys := keys) (hpl.trans (ordE_perm hk hn hid).symm) ?_ (ordE_pairs hk hid)
  have hix : (d'.toList.map Eo.ix).Nodup := by
    rw [(hpl.map Eo.ix).nodup_iff, List.Nodup, List.pairwise_map]
    exact hid.imp fun {x y} q => Nat.ne_of_lt q
  rw [List.pairwise_iff_getElem]
  intro i j hi1 hj1 hij
  have hi2 : i < d'.size := by simpa using hi1
  have hj2 : j < d'.size := by simpa using hj1
  have h1 := hs i j (Nat.zero_le _) hij (by omega)
  rw [getElem!_pos d' i hi2, getElem!_pos d' j hj2] at h1
  have hne : d'[i].ix ≠ d'[j].ix := by
    rw [List.Nodup, List.pairwise_map, List.pairwise_iff_getElem] at hix
    have := hix i j hi1 hj1 hij
    simpa using this
  show Ahd keys d'.toList[i] d'.toList[j]
  rw [Array.getElem_toList, Array.getElem_toList]
  unfold St.le rkE at h1
  unfold Ahd
  omega
end Go.Proofs.Ytmdlcalnncncjaa

/- tree.Ordered, in full. -/
set_option linter.unusedVariables false
set_option linter.unusedSimpArgs false
namespace Go.Proofs.Ytmdlcalnncncjaa
open Go.RowKit
/-- Pairs in the order of keys. -/
def ordL (keys : List ByteArray) (ps : List (ByteArray × Va)) : List (ByteArray × Va) := keys.filterMap (fun key => ps.find? fun q : ByteArray × Va => decide (q.1 = key)) ++ ps.filter fun q : ByteArray × Va => (kIdx keys q.1).isNone
def ordV (keys : List ByteArray) : Va → Va
  | .mk k n s l ks f => .mk 5 0 ByteArray.empty [] ((ordL keys (ks.zip f)).map Prod.fst) ((ordL keys (ks.zip f)).map Prod.snd)
theorem ordE_map (keys : List ByteArray) (D : List Eo) : (ordE keys D).map (fun e => (e.key, e.x)) = ordL keys (D.map fun e => (e.key, e.x)) := by
  unfold ordE ordL
  rw [List.map_append, List.map_filterMap, List.filter_map]
  congr 1
  · congr 1
    funext key
    rw [List.find?_map]
    rfl
theorem At6.cells {w : World} {g o : Nat} {key : ByteArray} {u : Hd} (h : At6 w ⟨g, o, none⟩ key u) (j : Nat) (c : Value) (hc : (pcells (key, u))[j]? = some c) : w.cell? ⟨g, o + j, none⟩ = some c := by
  obtain ⟨h0, h1, h2, h3, h4, h5⟩ := h
  have hj : j < 6 := (List.getElem?_eq_some_iff.1 hc).1
  match j, hj with
  | 0, _ => simp only [pcells, List.getElem?_cons_zero, Option.some.injEq] at hc; subst hc; exact h0
  | 1, _ => simp only [pcells, Hd.cells, List.getElem?_cons_succ, List.getElem?_cons_zero, Option.some.injEq] at hc; subst hc; exact h1
  | 2, _ => simp only [pcells, Hd.cells, List.getElem?_cons_succ, List.getElem?_cons_zero, Option.some.injEq] at hc; subst hc; exact h2
  | 3, _ => simp only [pcells, Hd.cells, List.getElem?_cons_succ, List.getElem?_cons_zero, Option.some.injEq] at hc; subst hc; exact h3
  | 4, _ => simp only [pcells, Hd.cells, List.getElem?_cons_succ, List.getElem?_cons_zero, Option.some.injEq] at hc; subst hc; exact h4
  | 5, _ => simp only [pcells, Hd.cells, List.getElem?_cons_succ, List.getElem?_cons_zero, Option.some.injEq] at hc; subst hc; exact h5
/-- The pairs of a value of one's own. -/
theorem Own.pairs {w : World} {k n : Int} {s : ByteArray} {ks : List ByteArray} {f : List Va} {T : Nat → Prop} {h : Hd} (H : Own w (.mk k n s [] ks f) T h) (hT : ∀ b, T b → b < w.heap.size) (h0 : 0 < f.length) :
    ∃ (g : Nat) (D : List Eo), h.F = some ⟨g, 0, none⟩ ∧ T g ∧ D.length = f.length ∧ Sw w g D.toArray w ∧ D.map (fun e => (e.key, e.x)) = ks.zip f ∧ ∀ (i : Nat) e, D[i]? = some e → e.ix = i ∧ Lies w (fun b => T b ∧ b ≠ g) e.x e.u := by
  cases H with
  | mk us vs SL SF hd ul vl rl rf hl hf bl bf sl sf dl df dd =>
    have e6 := hd.1.2.2.2.2.2
    rcases rf.2 with ⟨_, h1⟩ | ⟨g, cap, cur, hv, _, hh, hle, hcm, hsz, ht⟩
    · omega
    · have eF : h.F = some ⟨g, 0, none⟩ := by injection hv
      have bg := bf g (by rw [eF]; rfl)
      have hgl := hT g bg.1
      let mkE : Nat → Eo := fun i => match ks[i]?, vs[i]?, f[i]? with
        | some key, some u, some x => ⟨key, u, x, SF i, i⟩
        | _, _, _ => default
      let D : List Eo := (List.range f.length).map mkE
      have hDl : D.length = f.length := by simp [D]
      have hDi : ∀ (i : Nat) e, D[i]? = some e → ∃ key u x, ks[i]? = some key ∧ vs[i]? = some u ∧ f[i]? = some x ∧ e = ⟨key, u, x, SF i, i⟩ := by
        intro i e he
        have hi : i < f.length := by have := (List.getElem?_eq_some_iff.1 he).1; omega
        have h2 : D[i]? = some (mkE i) := by simp [D, List.getElem?_map, hi]
        have a1 : ks[i]? = some ks[i] := List.getElem?_eq_getElem (by omega)
        have a2 : vs[i]? = some vs[i] := List.getElem?_eq_getElem (by omega)
        have a3 : f[i]? = some f[i] := List.getElem?_eq_getElem hi
        have h3 : mkE i = ⟨ks[i], vs[i], f[i], SF i, i⟩ := by simp only [mkE, a1, a2, a3]
        rw [h2, h3] at he
        injection he with he
        exact ⟨ks[i], vs[i], f[i], a1, a2, a3, he.symm⟩
      have hD2 : D.map (fun e => (e.key, e.x)) = ks.zip f := by
        apply List.ext_getElem?
        intro i
        by_cases hi : i < f.length
        · obtain ⟨key, u, x, a1, a2, a3, a4⟩ := hDi i D[i] (List.getElem?_eq_getElem (by omega))
          rw [List.getElem?_map, List.getElem?_eq_getElem (by omega), a4]
          exact (List.getElem?_zip_eq_some.2 ⟨a1, a3⟩).symm
        · rw [List.getElem?_eq_none (by simp [hDl]; omega), List.getElem?_eq_none (by simp; omega)]
      refine ⟨g, D, eF, bg.1, hDl, ⟨Kp.refl _ _, fun i hi => ?_, fun o => by simp [World.frozen?, hh], hgl, fun i hi => ?_⟩, hD2, fun i e he => ?_⟩
      · have hi' : i < D.length := by simpa using hi
        obtain ⟨key, u, x, a1, a2, a3, a4⟩ := hDi i D[i] (List.getElem?_eq_getElem hi')
        rw [getElem!_pos D.toArray i hi, List.getElem_toArray, a4]
        simp only
        rw [← add0 g (i * 6)]
        refine At6.of fun d c hc => ?_
        rw [ada]
        exact rf.cells (g := g) (by rw [hv]; rfl) (i * 6 + d) c (flat_at pcells 6 (ks.zip vs) (fun _ _ => rfl) i (key, u) (List.getElem?_zip_eq_some.2 ⟨a1, a2⟩) d c hc)
      · have hi' : i < D.length := by simpa using hi
        obtain ⟨key, u, x, a1, a2, a3, a4⟩ := hDi i D[i] (List.getElem?_eq_getElem hi')
        rw [getElem!_pos D.toArray i hi, List.getElem_toArray, a4]
        exact hd.2.2.2.2.1 key (List.mem_of_getElem? a1)
      · obtain ⟨key, u, x, a1, a2, a3, a4⟩ := hDi i e he
        subst a4
        exact ⟨rfl, Lies.keep (fun _ _ _ => rfl) (fun b hb _ => ⟨sf i b hb, fun q => bg.2.2.1 i (by rw [← q]; exact hb)⟩) _ _ (Own.lies _ _ _ (hf i x u a3 a2))⟩
/-- The pairs put anew, as an object. -/
theorem Sw.lies {w0 wr : World} {g : Nat} {d d' : Array Eo} {T : Nat → Prop} {k n : Int} {s : ByteArray} {h : Hd} (H : Sw w0 g d' wr) (hp : d'.toList.Perm d.toList) (hT : T g) (he : ∀ e ∈ d.toList, Lies w0 (fun b => T b ∧ b ≠ g) e.x e.u)
    (hk : h.k = k ∧ h.n = n ∧ h.s = s ∧ h.la = 0) (hb : (-9223372036854775808 ≤ k ∧ k ≤ 9223372036854775807) ∧ (-9223372036854775808 ≤ n ∧ n ≤ 9223372036854775807) ∧ s.size ≤ maxLen) (hF : h.F = some ⟨g, 0, none⟩) (hl : h.lf = d'.size) (hc : d'.size ≤ h.fc) (hm : d'.size ≤ maxLen) :
    Lies wr T (.mk k n s [] (d'.toList.map Eo.key) (d'.toList.map Eo.x)) h := by
  unfold Lies
  refine ⟨⟨hk.1, hk.2.1, hk.2.2.1, hk.2.2.2, by simpa using hl, by simp⟩, ⟨hb.1, hb.2.1, hb.2.2, fun x hx => ?_, by decide, by simpa using hm, Nat.zero_le _, by simpa using hc⟩, ⟨[], fun h => by simp at h, by unfold LiesL; rfl⟩, ⟨d'.toList.map Eo.u, fun _ => ⟨⟨g, 0, none⟩, hF, hT, fun i c hi j v hv => ?_⟩, LiesL_mk (by simp) fun i y u hy hu => ?_⟩⟩
  · obtain ⟨e, he2, rfl⟩ := List.mem_map.1 hx
    obtain ⟨i, hi⟩ := List.mem_iff_getElem?.1 he2
    have hlt : i < d'.size := by have := (List.getElem?_eq_some_iff.1 hi).1; simpa using this
    have := H.key i hlt
    rw [getElem!_pos d' i hlt] at this
    rw [Array.getElem?_toList, Array.getElem?_eq_getElem hlt] at hi
    injection hi with hi
    rwa [hi] at this
  · have hz : (d'.toList.map Eo.key).zip (d'.toList.map Eo.u) = d'.toList.map fun e => (e.key, e.u) := by
      generalize d'.toList = L
      induction L with
      | nil => rfl
      | cons q r ih => simp only [List.map_cons, List.zip_cons_cons, ih]
    rw [hz, List.map_map, List.getElem?_map, Option.map_eq_some_iff] at hi
    obtain ⟨e, he2, rfl⟩ := hi
    have hlt : i < d'.size := by have := (List.getElem?_eq_some_iff.1 he2).1; simpa using this
    have h2 := H.at_ i hlt
    rw [getElem!_pos d' i hlt] at h2
    rw [Array.getElem?_toList, Array.getElem?_eq_getElem hlt] at he2
    injection he2 with he2
    rw [he2] at h2
    rw [add0]
    exact h2.cells j v hv
  · rw [List.getElem?_map, Option.map_eq_some_iff] at hy hu
    obtain ⟨e, he2, rfl⟩ := hy
    obtain ⟨e', he3, rfl⟩ := hu
    rw [he2] at he3
    cases he3
    exact Lies.keep (fun q hq hlt => World.cell?_of_block (H.kp.block _ hq.2 hlt)) (fun b hb _ => hb.1) _ _ (he e (hp.mem_iff.1 (List.mem_of_getElem? he2)))
set_option maxHeartbeats 1000000 in
set_option maxRecDepth 100000 in
/-- Nothing is sorted. -/
theorem sort_empty (F : Option Addr) (c Rv : Nat) (w : World) : Calls Try.prog 81 #[.slice F 0 c, cmpV Rv] w fun e w' => e = .returned (.tuple #[]) ∧ Below w.heap.size w w' := by
  have HI : Hid (∀ wx, Calls Try.prog 122 #[.slice F 0 c, .int .i64 0, .int .i64 0, cmpV Rv] wx fun e w' => e = .returned (.tuple #[]) ∧ w' = wx) := Lib.hid (fun wx => by
    go_enter Try.func122, Try.ntmps122
    go_wp2_with fail
    refine wp_loop_rounds 1 ?_
    rw [rounds_succ]
    go_wp2_with fail
    go_end0
    exact ⟨rfl, rfl⟩)
  have HS : Hid (∀ wx, Calls Try.prog 108 #[.slice F 0 c, .int .i64 0, cmpV Rv] wx fun e w' => e = .returned (.tuple #[]) ∧ w' = wx) := Lib.hid (fun wx => by
    go_enter Try.func108, Try.ntmps108
    go_wp2_with fail
    refine wp_loop_rounds 1 ?_
    rw [rounds_succ]
    go_wp2_with fail
    refine (HI.out wx).mono ?_
    rintro e w1 ⟨rfl, rfl⟩
    go_wp2_with fail
    refine wp_loop_rounds 1 ?_
    rw [rounds_succ]
    go_wp2_with fail
    go_end0
    exact ⟨rfl, rfl⟩)
  go_enter Try.func81, Try.ntmps81
  go_wp2_with fail
  refine (HS.out w).mono ?_
  rintro e w1 ⟨rfl, rfl⟩
  go_wp2_with fail
  go_end0
  exact ⟨rfl, Below.refl _ _⟩
end Go.Proofs.Ytmdlcalnncncjaa

/- The pairs that the reference's Ordered makes, step by step; plain. -/
set_option linter.unusedVariables false
set_option linter.unusedSimpArgs false
namespace Go.Proofs.Ytmdlcalnncncjaa
open Go.RowKit
abbrev fnd (ps : List (ByteArray × Va)) (key : ByteArray) : Option (ByteArray × Va) := ps.find? fun q : ByteArray × Va => decide (q.1 = key)
/-- After i keys. -/
def o1 (keys : List ByteArray) (ps : List (ByteArray × Va)) (i : Nat) : List (ByteArray × Va) := (keys.take i).filterMap (fnd ps)
/-- After i pairs. -/
def o2 (keys : List ByteArray) (ps : List (ByteArray × Va)) (i : Nat) : List (ByteArray × Va) := keys.filterMap (fnd ps) ++ (ps.take i).filter fun q : ByteArray × Va => (kIdx keys q.1).isNone
theorem o1_zero {keys : List ByteArray} {ps : List (ByteArray × Va)} : o1 keys ps 0 = [] := rfl
theorem o2_zero {keys : List ByteArray} {ps : List (ByteArray × Va)} : o2 keys ps 0 = o1 keys ps keys.length := by simp [o1, o2]
theorem o2_all {keys : List ByteArray} {ps : List (ByteArray × Va)} : o2 keys ps ps.length = ordL keys ps := by simp only [o2, List.take_length, ordL]
theorem takeO {α : Type} {l : List α} {i : Nat} {x : α} (h : l[i]? = some x) : l.take (i + 1) = l.take i ++ [x] := by
  rw [List.take_add_one, h]
  rfl
theorem o1_some {keys : List ByteArray} {ps : List (ByteArray × Va)} {i : Nat} {key : ByteArray} {q : ByteArray × Va} (h : keys[i]? = some key) (hf : fnd ps key = some q) : o1 keys ps (i + 1) = o1 keys ps i ++ [q] := by
  unfold o1
  rw [takeO h, List.filterMap_append]
  simp [hf]
theorem o1_none {keys : List ByteArray} {ps : List (ByteArray × Va)} {i : Nat} {key : ByteArray} (h : keys[i]? = some key) (hf : fnd ps key = none) : o1 keys ps (i + 1) = o1 keys ps i := by
  unfold o1
  rw [takeO h, List.filterMap_append]
  simp [hf]
theorem o2_in {keys : List ByteArray} {ps : List (ByteArray × Va)} {i : Nat} {q : ByteArray × Va} (h : ps[i]? = some q) (hk : q.1 ∈ keys) : o2 keys ps (i + 1) = o2 keys ps i := by
  unfold o2
  rw [takeO h, List.filter_append]
  have : ¬ (kIdx keys q.1).isNone := by rw [Option.isNone_iff_eq_none, kIdx_none]; exact fun e => e hk
  simp [this]
theorem o2_out {keys : List ByteArray} {ps : List (ByteArray × Va)} {i : Nat} {q : ByteArray × Va} (h : ps[i]? = some q) (hk : q.1 ∉ keys) : o2 keys ps (i + 1) = o2 keys ps i ++ [q] := by
  unfold o2
  rw [takeO h, List.filter_append]
  have : (kIdx keys q.1).isNone := by rw [Option.isNone_iff_eq_none, kIdx_none]; exact hk
  simp [this]
theorem o1_pre {keys : List ByteArray} {ps : List (ByteArray × Va)} (i : Nat) : o1 keys ps i <+: ordL keys ps := by
  refine List.IsPrefix.trans ?_ (List.prefix_append _ _)
  exact List.IsPrefix.filterMap (fnd ps) (List.take_prefix i keys)
theorem o2_pre {keys : List ByteArray} {ps : List (ByteArray × Va)} (i : Nat) : o2 keys ps i <+: ordL keys ps := by
  unfold o2 ordL
  rw [List.prefix_append_right_inj]
  exact List.IsPrefix.filter _ (List.take_prefix i ps)
theorem next_of {α : Type} {a L : List α} {q : α} (h : a ++ [q] <+: L) : L[a.length]? = some q := by
  obtain ⟨r, rfl⟩ := h
  simp
theorem fnd_at {ks : List ByteArray} {f : List Va} {i : Nat} {key : ByteArray} {x : Va} (hn : ks.Nodup) (h1 : ks[i]? = some key) (h2 : f[i]? = some x) : fnd (ks.zip f) key = some (key, x) := by
  induction ks generalizing f i with
  | nil => simp at h1
  | cons a r ih =>
    cases f with
    | nil => simp at h2
    | cons y g =>
      rw [List.nodup_cons] at hn
      cases i with
      | zero =>
        simp only [List.getElem?_cons_zero, Option.some.injEq] at h1 h2
        subst h1 h2
        simp [fnd]
      | succ j =>
        simp only [List.getElem?_cons_succ] at h1 h2
        have hne : ¬ a = key := fun q => hn.1 (by rw [q]; exact List.mem_of_getElem? h1)
        show List.find? _ ((a, y) :: r.zip g) = _
        rw [List.find?_cons_of_neg (by simpa using hne)]
        exact ih hn.2 h1 h2
theorem fnd_no {ks : List ByteArray} {f : List Va} {key : ByteArray} (h : key ∉ ks) : fnd (ks.zip f) key = none := by
  rw [List.find?_eq_none]
  intro q hq
  have := List.of_mem_zip (a := q.1) (b := q.2) hq
  simp only [decide_eq_true_eq]
  exact fun e => h (by rw [← e]; exact this.1)
/-- Is a pair's key among those so far? -/
theorem o2_mem {keys : List ByteArray} {ps : List (ByteArray × Va)} {i : Nat} {q : ByteArray × Va} (hn : (ps.map Prod.fst).Nodup) (h : ps[i]? = some q) : q.1 ∈ (o2 keys ps i).map Prod.fst ↔ q.1 ∈ keys := by
  have hi := (List.getElem?_eq_some_iff.1 h).1
  constructor
  · intro hm
    obtain ⟨p, hp, e⟩ := List.mem_map.1 hm
    unfold o2 at hp
    rcases List.mem_append.1 hp with hp | hp
    · obtain ⟨key, hk, hf⟩ := List.mem_filterMap.1 hp
      have := List.find?_some hf
      simp only [decide_eq_true_eq] at this
      rw [← e, this]
      exact hk
    · obtain ⟨j, hj⟩ := List.mem_iff_getElem?.1 (List.mem_filter.1 hp).1
      have hj2 : j < i := by have := (List.getElem?_eq_some_iff.1 hj).1; simp at this; omega
      rw [List.getElem?_take_of_lt hj2] at hj
      have e1 : (ps.map Prod.fst)[j]? = some q.1 := by rw [List.getElem?_map, hj, ← e]; rfl
      have e2 : (ps.map Prod.fst)[i]? = some q.1 := by rw [List.getElem?_map, h]; rfl
      have := (List.getElem?_inj (by simp; omega) hn).1 (e1.trans e2.symm)
      omega
  · intro hk
    refine List.mem_map.2 ?_
    cases hf : fnd ps q.1 with
    | none =>
      have := List.find?_eq_none.1 hf q (List.mem_of_getElem? h)
      simp at this
    | some p =>
      have h2 := List.find?_some hf
      simp only [decide_eq_true_eq] at h2
      exact ⟨p, List.mem_append_left _ (List.mem_filterMap.2 ⟨q.1, hk, hf⟩), h2⟩
end Go.Proofs.Ytmdlcalnncncjaa

/- tree.Ordered, walked. -/
set_option linter.unusedVariables false
set_option linter.unusedSimpArgs false
namespace Go.Proofs.Ytmdlcalnncncjaa
open Go.RowKit
/-- The three blocks of a call of Ordered. -/
structure OB (w : World) (h : Hd) (K : Option Addr) (kn kc : Nat) (wr : World) : Prop where
  bel : Below w.heap.size w wr
  bv : Bx wr w.heap.size h
  kv : wr.cell? ⟨w.heap.size + 1, 0, none⟩ = some (.slice K kn kc)
  res : wr.rowIs (w.heap.size + 2) 25 5 zeroRes
  sz : w.heap.size + 3 ≤ wr.heap.size
theorem OB.go {w wr wr' : World} {h : Hd} {K : Option Addr} {kn kc B : Nat} (H : OB w h K kn kc wr) (hb : Below B wr wr') (hB : w.heap.size + 3 ≤ B) : OB w h K kn kc wr' :=
  ⟨H.bel.trans (hb.mono (by omega)), H.bv.go hb (by omega), (hb.cell (p := ⟨w.heap.size + 1, 0, none⟩) (by show w.heap.size + 1 < B; omega)).trans H.kv, rowIs_below H.res hb (by omega), Nat.le_trans H.sz hb.size⟩
theorem OB.kp {w wr wr' : World} {h : Hd} {K : Option Addr} {kn kc g : Nat} (H : OB w h K kn kc wr) (hk : Kp g wr wr') (hg : w.heap.size + 3 ≤ g) : OB w h K kn kc wr' := by
  have h1 := H.sz
  exact ⟨H.bel.trans (hk.bel.mono (by omega)), H.bv.kp hk (by omega), (hk.cell (p := ⟨w.heap.size + 1, 0, none⟩) (by show w.heap.size + 1 ≠ g; omega) (by show w.heap.size + 1 < _; omega)).trans H.kv, rowIs_below' (B := 0) H.res (hk.block _ (by omega) (by omega)), Nat.le_trans h1 hk.size⟩
theorem OB.start (w : World) (h : Hd) (K : Option Addr) (kn kc : Nat) : OB w h K kn kc (((w.alloc (Obj.cells #[.int .i64 h.k, .int .i64 h.n, .string h.s, .slice h.A h.la h.lc, .slice h.F h.lf h.fc] 25)).alloc (Obj.cells #[.slice K kn kc] 44)).alloc (Obj.cells #[.int .i64 0, .int .i64 0, .string { data := #[] }, .slice none 0 0, .slice none 0 0] 25)) := by
  refine ⟨((one_alloc w _).alloc (by simp) _).alloc (by simp; omega) _, ((Bx.start w h 25).alloc _).alloc _, ?_, hdAt_row (h := zeroHd) ?_, by simp⟩
  · have h9 := heap_alloc_new (w.alloc (Obj.cells #[.int .i64 h.k, .int .i64 h.n, .string h.s, .slice h.A h.la h.lc, .slice h.F h.lf h.fc] 25)) (Obj.cells #[.slice K kn kc] 44)
    rw [World.size_alloc] at h9
    have h8 := Below.heap_alloc ((w.alloc (Obj.cells #[.int .i64 h.k, .int .i64 h.n, .string h.s, .slice h.A h.la h.lc, .slice h.F h.lf h.fc] 25)).alloc (Obj.cells #[.slice K kn kc] 44)) (Obj.cells #[.int .i64 0, .int .i64 0, .string { data := #[] }, .slice none 0 0, .slice none 0 0] 25) (w.heap.size + 1) (by simp)
    rw [cell_of_row _ (w.heap.size + 1) _ #[.slice K kn kc] 44 (0, 0) (h8.trans h9)]
    rfl
  · have h9 := heap_alloc_new ((w.alloc (Obj.cells #[.int .i64 h.k, .int .i64 h.n, .string h.s, .slice h.A h.la h.lc, .slice h.F h.lf h.fc] 25)).alloc (Obj.cells #[.slice K kn kc] 44)) (Obj.cells #[.int .i64 0, .int .i64 0, .string { data := #[] }, .slice none 0 0, .slice none 0 0] 25)
    rwa [World.size_alloc, World.size_alloc] at h9
theorem RankAt.kp {w w' : World} {Mv Kv g : Nat} {keys : List ByteArray} {b n : Nat} {D : DataW Unit} {K : Option Addr} {kc : Nat} (H : RankAt w Mv Kv keys b n D K kc) (hk : Kp g w w') (h1 : Mv ≠ g) (h2 : Kv ≠ g) (h3 : b ≠ g) : RankAt w' Mv Kv keys b n D K kc := by
  refine ⟨(hk.cell (p := ⟨Mv, 0, none⟩) h1 (World.block_lt_of_cell? w _ H.m)).trans H.m, (hk.cell (p := ⟨Kv, 0, none⟩) h2 (World.block_lt_of_cell? w _ H.k)).trans H.k, ?_, H.told, Nat.lt_of_lt_of_le H.lt hk.size⟩
  obtain ⟨es, clock, a1, a2⟩ := H.own
  exact ⟨es, clock, (hk.block b h3 H.lt).trans a1, a2⟩
/-- A right object. -/
theorem obj_R {n : Int} {t : ByteArray} {l : List Va} {ks : List ByteArray} {f : List Va} {d : Nat} (h : (Va.mk 5 n t l ks f).R d) : n = 0 ∧ t = ByteArray.empty ∧ l = [] ∧ ks.Nodup := by
  simp only [Va.R] at h
  obtain ⟨-, hT, hK, -⟩ := h
  refine ⟨?_, ?_, ?_, hK.2⟩
  · have := hT.c1
    by_cases e : n = 0
    · exact e
    · exact absurd ⟨by decide, by decide, e⟩ this
  · have := hT.c2
    by_cases e : t.size = 0
    · exact empty_of e
    · exact absurd ⟨by decide, e⟩ this
  · have := hT.c3
    cases l with
    | nil => rfl
    | cons a b => exact absurd ⟨by decide, by simp⟩ this
/-- What Ordered answers. -/
def OrdO (keys : List ByteArray) (arg : Prop) (a : Va) (w : World) (e : Ending) (w' : World) : Prop := ∃ (b : Va) (h' : Hd) (er : Int), e = .returned (.tuple #[.agg #[.int .i64 h'.k, .int .i64 h'.n, .string h'.s, .slice h'.A h'.la h'.lc, .slice h'.F h'.lf h'.fc], .int .i64 er]) ∧ Below w.heap.size w w' ∧ Lies w' (fun x => w.heap.size ≤ x) b h' ∧
  ((¬ arg ∧ er = 1 ∧ b = zeroVa) ∨ (arg ∧ ¬ keys.Nodup ∧ er = 7 ∧ b = zeroVa) ∨ (arg ∧ keys.Nodup ∧ er = 0 ∧ b = ordV keys a))
set_option maxHeartbeats 4000000 in
set_option maxRecDepth 100000 in
theorem ordered_prog (k n : Int) (s : ByteArray) (l : List Va) (ks : List ByteArray) (f : List Va) (S : Nat → Prop) (h : Hd) (w : World) (K : Option Addr) (kc : Nat) (keys : List ByteArray) (H : Lies w S (.mk k n s l ks f) h) (hsh : (Va.mk k n s l ks f).Sh) (hcn : (Va.mk k n s l ks f).cnt ≤ 1000) (hK : Rd w K keys.length (keys.map Value.string)) (hkl : keys.length ≤ 1000) (hkz : ∀ x ∈ keys, x.size ≤ maxLen) :
    Calls Try.prog 35 #[h.val, .slice K keys.length kc] w fun e w' => OrdO keys (h.k = 5 ∧ (Va.mk k n s l ks f).R 12) (.mk k n s l ks f) w e w' := by
  have HH := Lib.hid H
  have HSH := Lib.hid hsh
  have HKR := Lib.hid hK
  have HKZ := Lib.hid hkz
  have hcn2 := hcn
  simp only [Va.cnt] at hcn2
  have hfl : f.length ≤ 1000 := by have := len_le_cntL f; omega
  have HCN := Lib.hid hcn
  simp only [Lies] at H
  obtain ⟨⟨e1, e2, e3, e4, e5, e6⟩, -, -, -⟩ := H
  have E6 := Lib.hid e6
  have E1 := Lib.hid e1
  clear hsh hcn2 hcn e1 e2 e3 e4 e5 e6 hK hkz
  have htb := OB.start w h K keys.length kc
  have HTB := Lib.hid htb
  have hob := object_prog (.mk k n s l ks f) S h _ (HH.out.below htb.bel (Nat.le_refl _)) HSH.out (by have := HCN.out; omega)
  have HOB := Lib.hid hob
  clear hob htb
  unfold Hd.val at *
  go_enter Try.func35, Try.ntmps35
  go_wp2_with fail
  refine HOB.out.mono ?_
  rintro e w1 ⟨r, rfl, hr, hb1⟩
  have HT1 := Lib.hid (HTB.out.go hb1 (by simp))
  have HR := Lib.hid hr
  clear hb1 hr HOB HTB
  cases r
  · have z0 := HT1.out.res.cell (show 0 < 5 by decide)
    have z1 := HT1.out.res.cell (show 1 < 5 by decide)
    have z2 := HT1.out.res.cell (show 2 < 5 by decide)
    have z3 := HT1.out.res.cell (show 3 < 5 by decide)
    have z4 := HT1.out.res.cell (show 4 < 5 by decide)
    have g0 := HT1.out.res.frozen 0
    have g1 := HT1.out.res.frozen 1
    have g2 := HT1.out.res.frozen 2
    have g3 := HT1.out.res.frozen 3
    have g4 := HT1.out.res.frozen 4
    simp only [hdAt, Hd.cells, List.getD_cons_succ, List.getD_cons_zero] at z0 z1 z2 z3 z4
    go_wp2_with fail
    refine bodyPost_ret (v := .tuple #[.agg #[.int .i64 0, .int .i64 0, .string ByteArray.empty, .slice none 0 0, .slice none 0 0], .int .i64 1]) (by simp [results, Try.results35, go_sem, z0, z1, z2, z3, z4]; try rfl) rfl ?_
    exact ⟨zeroVa, zeroHd, 1, rfl, res_below HT1.out.bel (by omega), lies_zero _ _, .inl ⟨fun q => absurd (HR.out.2 q) (by decide), rfl, rfl⟩⟩
  have HARG := Lib.hid (HR.out.1 rfl)
  clear HR
  have kv := HT1.out.kv
  have hs1 := HT1.out.sz
  go_wp2_with fail
  refine (places_any keys K kc w1 (by omega) HKZ.out (HKR.out.below HT1.out.bel (Nat.le_refl _))).mono ?_
  rintro e w2 ⟨hb2, hp⟩
  have HT2 := Lib.hid (HT1.out.go hb2 HT1.out.sz)
  clear hb2 HT1 kv
  rcases hp with ⟨hnd, mb, mn, D, rfl, hmb, hown, hto⟩ | ⟨hnd, rfl⟩
  case inr =>
    have HND := Lib.hid hnd
    have HT3 := Lib.hid (HT2.out.go (one_alloc w2 (Obj.cells #[Value.map none] 82)) HT2.out.sz)
    clear hnd
    have z0 := HT3.out.res.cell (show 0 < 5 by decide)
    have z1 := HT3.out.res.cell (show 1 < 5 by decide)
    have z2 := HT3.out.res.cell (show 2 < 5 by decide)
    have z3 := HT3.out.res.cell (show 3 < 5 by decide)
    have z4 := HT3.out.res.cell (show 4 < 5 by decide)
    have g0 := HT3.out.res.frozen 0
    have g1 := HT3.out.res.frozen 1
    have g2 := HT3.out.res.frozen 2
    have g3 := HT3.out.res.frozen 3
    have g4 := HT3.out.res.frozen 4
    simp only [hdAt, Hd.cells, List.getD_cons_succ, List.getD_cons_zero] at z0 z1 z2 z3 z4
    go_wp2_with fail
    refine bodyPost_ret (v := .tuple #[.agg #[.int .i64 0, .int .i64 0, .string ByteArray.empty, .slice none 0 0, .slice none 0 0], .int .i64 7]) (by simp [results, Try.results35, go_sem, z0, z1, z2, z3, z4]; try rfl) rfl ?_
    exact ⟨zeroVa, zeroHd, 7, rfl, res_below HT3.out.bel (by omega), lies_zero _ _, .inr (.inl ⟨HARG.out, HND.out, rfl, rfl⟩)⟩
  have HND := Lib.hid hnd
  have hmlt : mb < w2.heap.size := by
    obtain ⟨es, clock, h1, h2⟩ := hown
    exact (Array.getElem?_eq_some_iff.1 h1).1
  have HOWN := Lib.hid hown
  have HTO := Lib.hid hto
  clear hown hto hnd
  have kv := HT2.out.kv
  have hs2 := HT2.out.sz
  have hbB : Below w2.heap.size w2 ((w2.alloc (Obj.cells #[Value.map (some mb)] 82)).alloc (Obj.cells #[closR w2.heap.size (w.heap.size + 1)] 86)) := (one_alloc w2 _).alloc (by simp) _
  have HT3 := Lib.hid (HT2.out.go hbB hs2)
  have q0 := HT3.out.bv.2 0 _ rfl
  have q1 := HT3.out.bv.2 1 _ rfl
  have q2 := HT3.out.bv.2 2 _ rfl
  have q3 := HT3.out.bv.2 3 _ rfl
  have q4 := HT3.out.bv.2 4 _ rfl
  have hmA : ((w2.alloc (Obj.cells #[Value.map (some mb)] 82)).alloc (Obj.cells #[closR w2.heap.size (w.heap.size + 1)] 86)).cell? ⟨w2.heap.size, 0, none⟩ = some (.map (some mb)) := by
    have h9 := heap_alloc_new w2 (Obj.cells #[Value.map (some mb)] 82)
    rw [cell_of_row _ w2.heap.size _ #[Value.map (some mb)] 82 (0, 0) ((Below.heap_alloc _ _ _ (by simp)).trans h9)]
    rfl
  have hrA : ((w2.alloc (Obj.cells #[Value.map (some mb)] 82)).alloc (Obj.cells #[closR w2.heap.size (w.heap.size + 1)] 86)).cell? ⟨w2.heap.size + 1, 0, none⟩ = some (closR w2.heap.size (w.heap.size + 1)) := by
    have h9 := heap_alloc_new (w2.alloc (Obj.cells #[Value.map (some mb)] 82)) (Obj.cells #[closR w2.heap.size (w.heap.size + 1)] 86)
    rw [World.size_alloc] at h9
    rw [cell_of_row _ (w2.heap.size + 1) _ #[closR w2.heap.size (w.heap.size + 1)] 86 (0, 0) h9]
    rfl
  have hszA : ((w2.alloc (Obj.cells #[Value.map (some mb)] 82)).alloc (Obj.cells #[closR w2.heap.size (w.heap.size + 1)] 86)).heap.size = w2.heap.size + 2 := by simp
  have hra : RankAt ((w2.alloc (Obj.cells #[Value.map (some mb)] 82)).alloc (Obj.cells #[closR w2.heap.size (w.heap.size + 1)] 86)) w2.heap.size (w.heap.size + 1) keys mb mn D K kc := by
    refine ⟨hmA, HT3.out.kv, ?_, HTO.out, by rw [hszA]; omega⟩
    obtain ⟨es, clock, h1, h2⟩ := HOWN.out
    exact ⟨es, clock, (hbB.block mb hmlt).trans h1, h2⟩
  have HRA := Lib.hid hra
  have HRV := Lib.hid hrA
  clear hmA hrA hra hbB
  go_wp2_with fail
  have HAN := Lib.hid (fun (wx : World) (hx : OB w h K keys.length kc wx) => anew_any (.mk k n s l ks f) S h wx (HH.out.below hx.bel (Nat.le_refl _)) HSH.out HCN.out)
  generalize (w2.alloc (Obj.cells #[Value.map (some mb)] 82)).alloc (Obj.cells #[closR w2.heap.size (w.heap.size + 1)] 86) = w3 at *
  refine (HAN.out w3 HT3.out).mono ?_
  rintro e w4 ⟨h4, T4, rfl, hown4, hT4, hb4⟩
  have HT4 := Lib.hid (HT3.out.go hb4 HT3.out.sz)
  have HL4 := Lib.hid (Own.lies _ _ _ hown4)
  have hlf4 : h4.lf = f.length := by have := HL4.out; simp only [Lies] at this; exact this.1.2.2.2.2.1
  have hsz4 := HT4.out.sz
  have hs34 := hb4.size
  have HRA4 := Lib.hid (HRA.out.below hb4)
  have HRV4 := Lib.hid (cur_bel HRV.out hb4)
  have HO4 := Lib.hid hown4
  have HTR := Lib.hid hT4
  obtain ⟨k4, n4, s4, A4, la4, lc4, F4, lf4, fc4⟩ := h4
  simp only at hlf4
  subst hlf4
  clear hown4 hT4 hb4 HT3 HT2 HRA HRV HAN q0 q1 q2 q3 q4 kv
  have eK : k = 5 := by rw [← E1.out]; exact HARG.out.1
  obtain ⟨eN, eS, eL, eND⟩ := obj_R (by have := HARG.out.2; rw [eK] at this; exact this)
  subst eL
  have EQ := Lib.hid (And.intro eK (And.intro eN eS))
  have END := Lib.hid eND
  clear eK eN eS eND
  go_wp2_with fail
  have hb5 : Below w4.heap.size w4 (w4.alloc (Obj.cells #[.int .i64 k4, .int .i64 n4, .string s4, .slice A4 la4 lc4, .slice F4 f.length fc4] 25)) := one_alloc w4 _
  have hbw5 := Bx.start w4 ⟨k4, n4, s4, A4, la4, lc4, F4, f.length, fc4⟩ 25
  generalize w4.alloc (Obj.cells #[.int .i64 k4, .int .i64 n4, .string s4, .slice A4 la4 lc4, .slice F4 f.length fc4] 25) = w5 at hb5 hbw5 ⊢
  have HSO : Hid (Calls Try.prog 81 #[.slice F4 f.length fc4, cmpV (w2.heap.size + 1)] w5 fun e w6 => e = .returned (.tuple #[]) ∧ OB w h K keys.length kc w6 ∧ Bx w6 w4.heap.size ⟨k4, n4, s4, A4, la4, lc4, F4, f.length, fc4⟩ ∧ w4.heap.size ≤ w6.heap.size ∧ Lies w6 T4 (ordV keys (.mk k n s [] ks f)) ⟨k4, n4, s4, A4, la4, lc4, F4, f.length, fc4⟩) := by
    refine Lib.hid ?_
    have hT5 := HT4.out.go hb5 HT4.out.sz
    have hR5 := HRA4.out.below hb5
    have hV5 := cur_bel HRV4.out hb5
    have hO5 := Own.keep _ _ _ HO4.out (fun b hb => hb5.block b (HTR.out b hb).2)
    have hL5 := Own.lies _ _ _ hO5
    have hs5 := hb5.size
    obtain ⟨ek, en, es⟩ := EQ.out
    rcases Nat.eq_zero_or_pos f.length with h0 | h0
    · have ef : f = [] := List.length_eq_zero_iff.1 h0
      have eks : ks = [] := List.length_eq_zero_iff.1 (by rw [E6.out]; exact h0)
      subst ef eks
      have eo : ordV keys (.mk k n s [] [] []) = .mk k n s [] [] [] := by
        unfold ordV
        rw [ek, en, es]
        have : ordL keys [] = [] := by unfold ordL; simp
        simp [this]
      rw [eo]
      refine (sort_empty F4 fc4 (w2.heap.size + 1) w5).mono ?_
      rintro e w6 ⟨rfl, hb6⟩
      have := hb6.size
      exact ⟨rfl, hT5.go hb6 hT5.sz, hbw5.go hb6 hbw5.1, by omega, hL5.below hb6 (Nat.le_refl _)⟩
    · obtain ⟨g, DD, eF, hTg, hDl, hSw, hDz, hDe⟩ := Own.pairs hO5 (fun b hb => Nat.lt_of_lt_of_le (HTR.out b hb).2 hs5) h0
      simp only at eF
      subst eF
      have hg := HTR.out g hTg
      have hks : DD.map Eo.key = ks := by
        have h1 := congrArg (List.map Prod.fst) hDz
        rw [List.map_map, List.map_fst_zip (by rw [E6.out]; exact Nat.le_refl _)] at h1
        exact h1
      have hup : ∀ i j, i < j → j < f.length → DD.toArray[i]!.ix < DD.toArray[j]!.ix := by
        have h7 : ∀ i, i < f.length → DD.toArray[i]!.ix = i := fun i hi => by
          have hlt : i < DD.length := by omega
          rw [getElem!_pos DD.toArray i (by simpa using hlt), List.getElem_toArray]
          exact (hDe i DD[i] (List.getElem?_eq_getElem hlt)).1
        intro i j hij hj
        rw [h7 i (by omega), h7 j hj]
        exact hij
      have hcmp : CmpOk w5 g (w2.heap.size + 1) (rkK keys) := by
        intro wr hk k1 k2 u1 u2 q1 q2
        refine (ord_any keys k1 k2 u1 u2 (w2.heap.size + 1) w2.heap.size (w.heap.size + 1) mb mn D K kc wr q1 q2 (hR5.kp hk (by omega) (by omega) (by omega)) ((hk.cell (p := ⟨w2.heap.size + 1, 0, none⟩) (by show w2.heap.size + 1 ≠ g; omega) (World.block_lt_of_cell? w5 _ hV5)).trans hV5)).mono ?_
        rintro e w' ⟨⟨r1, r2, p1, p2, rfl⟩, hb⟩
        rw [RankP.rk HND.out p1, RankP.rk HND.out p2]
        exact ⟨rfl, hb⟩
      refine (sort_any w5 g f.length fc4 (w2.heap.size + 1) (rkK keys) DD.toArray w5 hSw hcmp (by simp [hDl]) hfl hup).mono ?_
      rintro e w6 ⟨rfl, d', h1, h2, h3⟩
      have hsz : f.length = DD.toArray.size := by simp [hDl]
      have heq : d'.toList = ordE keys DD := sorted_ordE (d := DD.toArray) HND.out (by simpa [hks] using END.out) (fun i j q1 q2 => hup i j q1 (by omega)) (by rw [← hsz]; exact h2) (by rw [← hsz]; exact h3)
      have hpl : d'.toList.Perm DD := by
        rw [heq]
        refine ordE_perm HND.out (by rw [hks]; exact END.out) ?_
        rw [List.pairwise_iff_getElem]
        intro i j hi hj hij
        rw [(hDe i DD[i] (List.getElem?_eq_getElem hi)).1, (hDe j DD[j] (List.getElem?_eq_getElem hj)).1]
        exact hij
      have eo : ordV keys (.mk k n s [] ks f) = .mk 5 0 ByteArray.empty [] (d'.toList.map Eo.key) (d'.toList.map Eo.x) := by
        simp only [ordV]
        rw [← hDz, ← ordE_map, ← heq, List.map_map, List.map_map]
        rfl
      rw [eo]
      have hds : d'.size = f.length := by have := hpl.length_eq; simpa [hDl] using this
      simp only [Lies] at hL5
      obtain ⟨⟨e1, e2, e3, e4, e5, e6⟩, ⟨b1, b2, b3, b4, b5, b6, b7, b8⟩, -⟩ := hL5
      have hs6 := h1.kp.size
      refine ⟨rfl, hT5.kp h1.kp (by omega), hbw5.kp h1.kp (by omega), by omega, Sw.lies (d := DD.toArray) h1 (by simpa using hpl) hTg (fun e he => ?_) ⟨e1.trans ek, e2.trans en, e3.trans es, e4⟩ ⟨by decide, by decide, by decide⟩ rfl hds.symm (by rw [hds]; exact b8) (by rw [hds]; exact b6)⟩
      obtain ⟨i, hi⟩ := List.mem_iff_getElem?.1 (show e ∈ DD by simpa using he)
      exact (hDe i e hi).2
  refine HSO.out.mono ?_
  rintro e w6 ⟨rfl, hT6', hW6, hs6, hL6⟩
  have HT6 := Lib.hid hT6'
  have HW6 := Lib.hid hW6
  have HL6 := Lib.hid hL6
  clear hT6' hW6 hL6 hb5 hbw5 HSO HT4
  have b0 := HW6.out.2 0 _ rfl
  have b1 := HW6.out.2 1 _ rfl
  have b2 := HW6.out.2 2 _ rfl
  have b3 := HW6.out.2 3 _ rfl
  have b4 := HW6.out.2 4 _ rfl
  have z0 := HT6.out.res.cell (show 0 < 5 by decide)
  have z1 := HT6.out.res.cell (show 1 < 5 by decide)
  have z2 := HT6.out.res.cell (show 2 < 5 by decide)
  have z3 := HT6.out.res.cell (show 3 < 5 by decide)
  have z4 := HT6.out.res.cell (show 4 < 5 by decide)
  have g0 := HT6.out.res.frozen 0
  have g1 := HT6.out.res.frozen 1
  have g2 := HT6.out.res.frozen 2
  have g3 := HT6.out.res.frozen 3
  have g4 := HT6.out.res.frozen 4
  simp only [hdAt, Hd.cells, List.getD_cons_succ, List.getD_cons_zero] at z0 z1 z2 z3 z4
  go_wp2_with fail
  refine bodyPost_ret (v := .tuple #[.agg #[.int .i64 k4, .int .i64 n4, .string s4, .slice A4 la4 lc4, .slice F4 f.length fc4], .int .i64 0]) (by simp [results, Try.results35, go_sem, z0, z1, z2, z3, z4]) rfl ?_
  refine ⟨ordV keys (.mk k n s [] ks f), ⟨k4, n4, s4, A4, la4, lc4, F4, f.length, fc4⟩, 0, rfl, res_below HT6.out.bel (by omega), ?_, .inr (.inr ⟨HARG.out, HND.out, rfl, rfl⟩)⟩
  exact Lies.keep (fun p hp _ => World.cell?_of_block (res_set (w := w) p.block (by have := HTR.out _ hp; omega))) (fun b hb _ => by have := HTR.out _ hb; omega) _ _ HL6.out
end Go.Proofs.Ytmdlcalnncncjaa

/- Values with their pairs by their keys: what is sorted is one; plain. -/
set_option linter.unusedVariables false
set_option linter.unusedSimpArgs false
namespace Go.Proofs.Ytmdlcalnncncjaa
open Go.RowKit
theorem bytesLess_lt : ∀ (x y : List UInt8), Op.bytesLess x y = decide (x < y)
  | [], [] => by simp [Op.bytesLess]
  | _ :: _, [] => by simp [Op.bytesLess]
  | [], _ :: _ => by simp [Op.bytesLess]
  | a :: x, b :: y => by
    rw [Op.bytesLess, bytesLess_lt x y]
    simp only [List.cons_lt_cons_iff]
    by_cases h1 : a < b <;> by_cases h2 : a = b <;> by_cases h3 : x < y <;> simp [h1, h2, h3]
theorem lessB_irrefl (x : ByteArray) : lessB x x = false := by simp [lessB, bytesLess_lt, List.lt_irrefl]
theorem lessB_trans {x y z : ByteArray} (h1 : lessB x y = true) (h2 : lessB y z = true) : lessB x z = true := by
  simp only [lessB, bytesLess_lt, decide_eq_true_eq] at *
  exact List.lt_trans h1 h2
theorem lessB_ntrans {x y z : ByteArray} (h1 : lessB x y = false) (h2 : lessB y z = false) : lessB x z = false := by
  simp only [lessB, bytesLess_lt, decide_eq_false_iff_not, List.not_lt] at *
  exact List.le_trans h2 h1
theorem lessB_one {x y : ByteArray} (h1 : lessB x y = false) (h2 : lessB y x = false) : x = y := by
  simp only [lessB, bytesLess_lt, decide_eq_false_iff_not, List.not_lt] at *
  have h := List.le_antisymm h2 h1
  refine Classical.byContradiction fun hne => ?_
  have := bytes_ne hne
  rw [h] at this
  simp at this
theorem lessB_asymm {x y : ByteArray} (h1 : lessB x y = true) : lessB y x = false := by
  cases h : lessB y x
  · rfl
  · have := lessB_trans h1 h
    rw [lessB_irrefl] at this
    cases this
theorem putP_perm {α : Type} (acc : List (ByteArray × α)) (p : ByteArray × α) : (putP acc p).Perm (p :: acc) := by
  unfold putP
  refine List.perm_middle.trans ?_
  rw [List.take_append_drop]
theorem foldP_perm {α : Type} : ∀ (ps acc : List (ByteArray × α)), (ps.foldl putP acc).Perm (acc ++ ps)
  | [], acc => by simp
  | p :: r, acc => by
    rw [List.foldl_cons]
    refine (foldP_perm r (putP acc p)).trans ?_
    refine ((putP_perm acc p).append_right r).trans ?_
    rw [List.cons_append]
    exact List.perm_middle.symm
theorem srtP_perm {α : Type} (ps : List (ByteArray × α)) : (srtP ps).Perm ps := by
  have := foldP_perm ps []
  rwa [List.nil_append] at this
/-- By rising keys. -/
def Rise {α : Type} (ps : List (ByteArray × α)) : Prop := ps.Pairwise fun p q => lessB p.1 q.1 = true
theorem plc_all {key : ByteArray} : ∀ {ks : List ByteArray} {x : ByteArray}, x ∈ ks.take (plc ks key) → lessB x key = true
  | [], x, h => by simp [plc] at h
  | y :: r, x, h => by
    simp only [plc] at h
    split at h
    · rename_i hy
      rw [List.take_succ_cons, List.mem_cons] at h
      rcases h with rfl | h
      · exact hy
      · exact plc_all h
    · simp at h
theorem plc_head {key : ByteArray} : ∀ {ks : List ByteArray} {x : ByteArray}, ks[plc ks key]? = some x → lessB x key = false
  | [], x, h => by simp [plc] at h
  | y :: r, x, h => by
    simp only [plc] at h
    split at h
    · exact plc_head (by simpa using h)
    · rename_i hy
      simp at h
      subst h
      simpa using hy
theorem putP_rise {α : Type} {acc : List (ByteArray × α)} {p : ByteArray × α} (h : Rise acc) (hn : p.1 ∉ acc.map Prod.fst) : Rise (putP acc p) := by
  unfold Rise putP at *
  have hk := plc_le p.1 (acc.map Prod.fst)
  generalize hkk : plc (acc.map Prod.fst) p.1 = k at *
  have ha : ∀ x ∈ acc.take k, lessB x.1 p.1 = true := fun x hx => by
    refine plc_all (ks := acc.map Prod.fst) ?_
    rw [hkk, ← List.map_take]
    exact List.mem_map_of_mem hx
  have hsp := h
  rw [← List.take_append_drop k acc, List.pairwise_append] at hsp
  obtain ⟨h1, h2, h3⟩ := hsp
  have hb : ∀ x ∈ acc.drop k, lessB p.1 x.1 = true := by
    cases hd : acc.drop k with
    | nil => simp
    | cons y r =>
      have hy0 : acc[k]? = some y := by
        have := congrArg (·[0]?) hd
        simpa [List.getElem?_drop] using this
      have hy1 : lessB y.1 p.1 = false := plc_head (ks := acc.map Prod.fst) (by rw [hkk, List.getElem?_map, hy0]; rfl)
      have hy : lessB p.1 y.1 = true := by
        cases hq : lessB p.1 y.1
        · refine absurd ?_ hn
          rw [lessB_one hq hy1]
          exact List.mem_map_of_mem (List.mem_of_getElem? hy0)
        · rfl
      intro x hx
      rcases List.mem_cons.1 hx with rfl | hx
      · exact hy
      · rw [hd, List.pairwise_cons] at h2
        exact lessB_trans hy (h2.1 x hx)
  rw [List.pairwise_append, List.pairwise_cons]
  refine ⟨h1, ⟨hb, h2⟩, fun x hx y hy => ?_⟩
  rcases List.mem_cons.1 hy with rfl | hy
  · exact ha x hx
  · exact h3 x hx y hy
theorem foldP_rise {α : Type} : ∀ (ps acc : List (ByteArray × α)), Rise acc → ((acc ++ ps).map Prod.fst).Nodup → Rise (ps.foldl putP acc)
  | [], acc, h, _ => h
  | p :: r, acc, h, hn => by
    rw [List.foldl_cons]
    refine foldP_rise r _ (putP_rise h ?_) ?_
    · rw [List.map_append, List.map_cons, List.nodup_append] at hn
      intro hm
      exact hn.2.2 _ hm _ (List.mem_cons_self ..) rfl
    · refine (List.Perm.nodup_iff ?_).2 hn
      refine List.Perm.map _ ?_
      refine ((putP_perm acc p).append_right r).trans ?_
      rw [List.cons_append]
      exact List.perm_middle.symm
theorem srtP_rise {α : Type} {ps : List (ByteArray × α)} (hn : (ps.map Prod.fst).Nodup) : Rise (srtP ps) := foldP_rise ps [] List.Pairwise.nil (by simpa using hn)
/-- Two orders by rising keys are one. -/
theorem rise_one {α : Type} : ∀ {l m : List (ByteArray × α)}, l.Perm m → Rise l → Rise m → l = m
  | [], m, hp, _, _ => (List.Perm.nil_eq hp)
  | a :: t, [], hp, _, _ => by simpa using hp.symm.nil_eq
  | a :: t, b :: r, hp, hl, hm => by
    unfold Rise at hl hm
    rw [List.pairwise_cons] at hl hm
    have h1 : a ∈ b :: r := hp.mem_iff.1 (List.mem_cons_self ..)
    have h2 : b ∈ a :: t := hp.mem_iff.2 (List.mem_cons_self ..)
    obtain rfl : a = b := by
      rcases List.mem_cons.1 h1 with rfl | h1
      · rfl
      · rcases List.mem_cons.1 h2 with rfl | h2
        · rfl
        · have q1 := hm.1 a h1
          have q2 := lessB_asymm (hl.1 b h2)
          rw [q1] at q2
          cases q2
    rw [rise_one ((List.perm_cons a).1 hp) hl.2 hm.2]
/-- What sorts by keys sorts as the reference does. -/
theorem sort_one {α : Type} {ps qs : List (ByteArray × α)} (hp : qs.Perm ps) (hr : Rise qs) (hn : (ps.map Prod.fst).Nodup) : qs = srtP ps :=
  rise_one (hp.trans (srtP_perm ps).symm) hr (srtP_rise hn)
theorem cntL_perm : ∀ {l m : List Va}, l.Perm m → cntL l = cntL m := by
  intro l m h
  induction h with
  | nil => rfl
  | cons x _ ih => simp only [cntL]; omega
  | swap x y l => simp only [cntL]; omega
  | trans _ _ h1 h2 => exact h1.trans h2
theorem RL_all {l : List Va} {d : Nat} : RL l d ↔ ∀ x ∈ l, x.R d := by
  induction l with
  | nil => simp [RL]
  | cons x r ih => simp [RL, ih]
theorem ShL_all {l : List Va} : ShL l ↔ ∀ x ∈ l, x.Sh := by
  induction l with
  | nil => simp [ShL]
  | cons x r ih => simp [ShL, ih]
theorem zip_fst {α β : Type} : ∀ {ks : List α} {f : List β}, ks.length = f.length → (ks.zip f).map Prod.fst = ks
  | [], f, h => rfl
  | x :: r, [], h => by simp at h
  | x :: r, y :: f, h => by simp [zip_fst (ks := r) (f := f) (by simpa using h)]
theorem zip_snd {α β : Type} : ∀ {ks : List α} {f : List β}, ks.length = f.length → (ks.zip f).map Prod.snd = f
  | [], [], h => rfl
  | [], y :: f, h => by simp at h
  | x :: r, [], h => by simp at h
  | x :: r, y :: f, h => by simp [zip_snd (ks := r) (f := f) (by simpa using h)]
theorem srt_keys {ks : List ByteArray} {f : List Va} (h : ks.length = f.length) : ((srtP (ks.zip f)).map Prod.fst).Perm ks ∧ ((srtP (ks.zip f)).map Prod.snd).Perm f := by
  have h1 := (srtP_perm (ks.zip f)).map Prod.fst
  have h2 := (srtP_perm (ks.zip f)).map Prod.snd
  rw [zip_fst h] at h1
  rw [zip_snd h] at h2
  exact ⟨h1, h2⟩
/-- Keys and values are as many, throughout. -/
def Va.Ev : Va → Prop
  | .mk _ _ _ l ks f => ks.length = f.length ∧ (∀ x ∈ l, x.Ev) ∧ (∀ x ∈ f, x.Ev)
theorem srt_all (a : Va) : a.Ev → a.srt.cnt = a.cnt ∧ (a.Sh → a.srt.Sh) ∧ (∀ d, a.R d → a.srt.R d) := by
  induction a using Va.ind with
  | h k n s l ks f ihl ihf =>
    intro hev
    simp only [Va.Ev] at hev
    obtain ⟨he, hl, hf⟩ := hev
    have hev2 : ks.length = (srtL f).length := by rw [srtL_length]; exact he
    obtain ⟨p1, p2⟩ := srt_keys hev2
    have cl : ∀ m : List Va, (∀ x ∈ m, x.srt.cnt = x.cnt) → cntL (srtL m) = cntL m := by
      intro m
      induction m with
      | nil => intro _; rfl
      | cons x r ih =>
        intro h
        simp only [srtL, cntL]
        rw [h x (List.mem_cons_self ..), ih fun y hy => h y (List.mem_cons_of_mem _ hy)]
    refine ⟨?_, fun hsh => ?_, fun d hr => ?_⟩
    · simp only [Va.srt, Va.cnt]
      rw [cntL_perm p2, cl l fun x hx => (ihl x hx (hl x hx)).1, cl f fun x hx => (ihf x hx (hf x hx)).1]
    · simp only [Va.srt, Va.Sh] at hsh ⊢
      refine ⟨hsh.1, ?_, fun x hx => hsh.2.2.1 x (p1.mem_iff.1 hx), ?_⟩
      · rw [ShL_all, srtL_map]
        intro x hx
        obtain ⟨y, hy, rfl⟩ := List.mem_map.1 hx
        exact (ihl y hy (hl y hy)).2.1 (ShL_all.1 hsh.2.1 y hy)
      · rw [ShL_all]
        intro x hx
        have hx2 := p2.mem_iff.1 hx
        rw [srtL_map] at hx2
        obtain ⟨y, hy, rfl⟩ := List.mem_map.1 hx2
        exact (ihf y hy (hf y hy)).2.1 (ShL_all.1 hsh.2.2.2 y hy)
    · simp only [Va.srt, Va.R] at hr ⊢
      obtain ⟨h1, h2, h3, h4, h5⟩ := hr
      refine ⟨h1, ?_, ⟨fun x hx => h3.1 x (p1.mem_iff.1 hx), p1.nodup_iff.2 h3.2⟩, ?_, ?_⟩
      · rw [srtL_length, p2.length_eq, srtL_length]
        exact h2
      · rw [RL_all, srtL_map]
        intro x hx
        obtain ⟨y, hy, rfl⟩ := List.mem_map.1 hx
        exact (ihl y hy (hl y hy)).2.2 _ (RL_all.1 h4 y hy)
      · rw [RL_all]
        intro x hx
        have hx2 := p2.mem_iff.1 hx
        rw [srtL_map] at hx2
        obtain ⟨y, hy, rfl⟩ := List.mem_map.1 hx2
        exact (ihf y hy (hf y hy)).2.2 _ (RL_all.1 h5 y hy)
theorem lies_ev {w : World} (a : Va) : ∀ (S : Nat → Prop) (h : Hd), Lies w S a h → a.Ev := by
  induction a using Va.ind with
  | h k n s l ks f ihl ihf =>
    intro S h H
    simp only [Lies] at H
    obtain ⟨⟨_, _, _, _, _, e6⟩, _, ⟨us, _, h1⟩, ⟨vs, _, h2⟩⟩ := H
    simp only [Va.Ev]
    refine ⟨e6, fun x hx => ?_, fun x hx => ?_⟩
    · obtain ⟨i, hi⟩ := List.mem_iff_getElem?.1 hx
      obtain ⟨u, _, hu⟩ := LiesL_at h1 hi
      exact ihl x hx S u hu
    · obtain ⟨i, hi⟩ := List.mem_iff_getElem?.1 hx
      obtain ⟨u, _, hu⟩ := LiesL_at h2 hi
      exact ihf x hx S u hu
end Go.Proofs.Ytmdlcalnncncjaa

/- Pairs in the order of keys: once more, sorted, right; plain. -/
set_option linter.unusedVariables false
set_option linter.unusedSimpArgs false
namespace Go.Proofs.Ytmdlcalnncncjaa
open Go.RowKit
theorem fnd_key {ps : List (ByteArray × Va)} {key : ByteArray} {q : ByteArray × Va} (h : fnd ps key = some q) : q ∈ ps ∧ q.1 = key := by
  have h1 := List.find?_some h
  simp only [decide_eq_true_eq] at h1
  exact ⟨List.mem_of_find?_eq_some h, h1⟩
theorem fm_congr {α β : Type} {f g : α → Option β} : ∀ {l : List α}, (∀ x ∈ l, f x = g x) → l.filterMap f = l.filterMap g
  | [], _ => rfl
  | x :: r, h => by
    rw [List.filterMap_cons, List.filterMap_cons, h x (by simp), fm_congr fun y hy => h y (by simp [hy])]
theorem fnd_first (ps : List (ByteArray × Va)) (key : ByteArray) : ∀ keys : List ByteArray, key ∈ keys → fnd (keys.filterMap (fnd ps)) key = fnd ps key
  | k :: r, h => by
    by_cases e : k = key
    · subst e
      cases hf : fnd ps k with
      | none =>
        rw [List.filterMap_cons, hf]
        simp only
        rw [List.find?_eq_none]
        intro q hq
        obtain ⟨k2, -, hk2⟩ := List.mem_filterMap.1 hq
        simp only [decide_eq_true_eq]
        intro e2
        have h3 := fnd_key hk2
        have h4 := List.find?_eq_none.1 hf q h3.1
        simp [e2] at h4
      | some q =>
        rw [List.filterMap_cons, hf]
        simp only
        show List.find? _ (q :: _) = _
        rw [List.find?_cons_of_pos (by simpa using (fnd_key hf).2)]
    · have hr : key ∈ r := by
        rcases List.mem_cons.1 h with h | h
        · exact absurd h.symm e
        · exact h
      cases hf : fnd ps k with
      | none =>
        rw [List.filterMap_cons, hf]
        exact fnd_first ps key r hr
      | some q =>
        rw [List.filterMap_cons, hf]
        simp only
        show List.find? _ (q :: _) = _
        rw [List.find?_cons_of_neg (by simpa [(fnd_key hf).2] using e)]
        exact fnd_first ps key r hr
/-- Ordered again. -/
theorem ordL_again (keys : List ByteArray) (ps : List (ByteArray × Va)) : ordL keys (ordL keys ps) = ordL keys ps := by
  have hP : ∀ q ∈ keys.filterMap (fnd ps), q.1 ∈ keys := fun q hq => by
    obtain ⟨k, hk, hf⟩ := List.mem_filterMap.1 hq
    rw [(fnd_key hf).2]
    exact hk
  have e1 : keys.filterMap (fnd (ordL keys ps)) = keys.filterMap (fnd ps) := by
    refine fm_congr fun key hk => ?_
    have h1 := fnd_first ps key keys hk
    show List.find? _ (keys.filterMap (fnd ps) ++ ps.filter fun q : ByteArray × Va => (kIdx keys q.1).isNone) = _
    rw [List.find?_append]
    have h2 : List.find? (fun q : ByteArray × Va => decide (q.1 = key)) (ps.filter fun q : ByteArray × Va => (kIdx keys q.1).isNone) = none := by
      rw [List.find?_eq_none]
      intro q hq
      have h3 := (List.mem_filter.1 hq).2
      rw [Option.isNone_iff_eq_none, kIdx_none] at h3
      simp only [decide_eq_true_eq]
      exact fun e => h3 (by rw [e]; exact hk)
    rw [h2, Option.or_none]
    exact h1
  have e2 : (ordL keys ps).filter (fun q : ByteArray × Va => (kIdx keys q.1).isNone) = ps.filter fun q : ByteArray × Va => (kIdx keys q.1).isNone := by
    show (keys.filterMap (fnd ps) ++ ps.filter fun q : ByteArray × Va => (kIdx keys q.1).isNone).filter _ = _
    rw [List.filter_append, List.filter_filter]
    have h4 : (keys.filterMap (fnd ps)).filter (fun q : ByteArray × Va => (kIdx keys q.1).isNone) = [] := by
      rw [List.filter_eq_nil_iff]
      intro q hq h3
      rw [Option.isNone_iff_eq_none, kIdx_none] at h3
      exact h3 (hP q hq)
    rw [h4, List.nil_append]
    congr 1
    funext q
    simp
  show keys.filterMap (fnd (ordL keys ps)) ++ (ordL keys ps).filter (fun q : ByteArray × Va => (kIdx keys q.1).isNone) = _
  rw [e1, e2]
  rfl
theorem ordL_perm {keys : List ByteArray} {ps : List (ByteArray × Va)} (hk : keys.Nodup) (hn : (ps.map Prod.fst).Nodup) : (ordL keys ps).Perm ps := by
  let D : List Eo := (List.range ps.length).map fun i => match ps[i]? with
    | some q => ⟨q.1, ⟨0, 0, ByteArray.empty, none, 0, 0, none, 0, 0⟩, q.2, fun _ => False, i⟩
    | none => default
  have hD : ∀ (i : Nat) e, D[i]? = some e → ∃ q, ps[i]? = some q ∧ e = ⟨q.1, ⟨0, 0, ByteArray.empty, none, 0, 0, none, 0, 0⟩, q.2, fun _ => False, i⟩ := by
    intro i e he
    have hi : i < ps.length := by have := (List.getElem?_eq_some_iff.1 he).1; simpa [D] using this
    simp only [D, List.getElem?_map, List.getElem?_range hi, Option.map_some, List.getElem?_eq_getElem hi, Option.some.injEq] at he
    exact ⟨ps[i], List.getElem?_eq_getElem hi, he.symm⟩
  have hDl : D.length = ps.length := by simp [D]
  have hD2 : D.map (fun e => (e.key, e.x)) = ps := by
    apply List.ext_getElem?
    intro i
    by_cases hi : i < ps.length
    · obtain ⟨q, a, b⟩ := hD i D[i] (List.getElem?_eq_getElem (by omega))
      rw [List.getElem?_map, List.getElem?_eq_getElem (by omega), b, a]
      rfl
    · rw [List.getElem?_eq_none (by simp [hDl]; omega), List.getElem?_eq_none (by omega)]
  have hkk : D.map Eo.key = ps.map Prod.fst := by
    have h0 := congrArg (List.map Prod.fst) hD2
    rw [List.map_map] at h0
    exact h0
  have h := ordE_perm (keys := keys) (D := D) hk (by rw [hkk]; exact hn) (by
    rw [List.pairwise_iff_getElem]
    intro i j hi hj hij
    obtain ⟨q1, a1, b1⟩ := hD i D[i] (List.getElem?_eq_getElem hi)
    obtain ⟨q2, a2, b2⟩ := hD j D[j] (List.getElem?_eq_getElem hj)
    rw [b1, b2]
    exact hij)
  have h2 := h.map (fun e => (e.key, e.x))
  rwa [ordE_map, hD2] at h2
theorem srtP_same {α : Type} {ps qs : List (ByteArray × α)} (hp : qs.Perm ps) (hn : (ps.map Prod.fst).Nodup) : srtP qs = srtP ps :=
  sort_one ((srtP_perm qs).trans hp) (srtP_rise ((hp.map Prod.fst).nodup_iff.2 hn)) hn
theorem zip_srt : ∀ ps : List (ByteArray × Va), (ps.map Prod.fst).zip (srtL (ps.map Prod.snd)) = ps.map fun q => (q.1, q.2.srt)
  | [] => rfl
  | q :: r => by
    simp only [List.map_cons, srtL, List.zip_cons_cons, zip_srt r]
theorem zip_unzip {ks : List ByteArray} {f : List Va} (h : ks.length = f.length) : (ks.zip f).map Prod.fst = ks ∧ (ks.zip f).map Prod.snd = f :=
  ⟨List.map_fst_zip (by omega), List.map_snd_zip (by omega)⟩
theorem zipB {α β : Type} : ∀ us : List (α × β), (us.map Prod.fst).zip (us.map Prod.snd) = us
  | [] => rfl
  | (a, b) :: r => by simp [zipB r]
/-- What is ordered is right as it was. -/
theorem ord_all {keys : List ByteArray} {n : Int} {s : ByteArray} {l : List Va} {ks : List ByteArray} {f : List Va} {d : Nat} (hk : keys.Nodup) (hl : ks.length = f.length) (hr : (Va.mk 5 n s l ks f).R d) :
    (ordV keys (.mk 5 n s l ks f)).R d ∧ (ordV keys (.mk 5 n s l ks f)).cnt = (Va.mk 5 n s l ks f).cnt ∧ ((Va.mk 5 n s l ks f).Sh → (ordV keys (.mk 5 n s l ks f)).Sh) ∧ (ordV keys (.mk 5 n s l ks f)).srt = (Va.mk 5 n s l ks f).srt ∧ ordV keys (ordV keys (.mk 5 n s l ks f)) = ordV keys (.mk 5 n s l ks f) := by
  obtain ⟨rfl, rfl, rfl, hnd⟩ := obj_R hr
  obtain ⟨z1, z2⟩ := zip_unzip hl
  have hp := ordL_perm (keys := keys) (ps := ks.zip f) hk (by rw [z1]; exact hnd)
  have hp1 := hp.map Prod.fst
  have hp2 := hp.map Prod.snd
  rw [z1] at hp1
  rw [z2] at hp2
  refine ⟨?_, ?_, fun hs => ?_, ?_, ?_⟩
  · simp only [ordV, Va.R] at hr ⊢
    obtain ⟨h1, hT, hK, hL, hF⟩ := hr
    refine ⟨h1, ?_, ⟨fun x hx => hK.1 x (hp1.mem_iff.1 hx), hp1.nodup_iff.2 hK.2⟩, hL, ?_⟩
    · rw [show ((ordL keys (ks.zip f)).map Prod.snd).length = f.length from hp2.length_eq]
      exact hT
    · rw [RL_all] at hF ⊢
      exact fun x hx => hF x (hp2.mem_iff.1 hx)
  · simp only [ordV, Va.cnt, cntL_perm hp2]
  · simp only [ordV, Va.Sh] at hs ⊢
    refine ⟨hs.1, hs.2.1, fun x hx => hs.2.2.1 x (hp1.mem_iff.1 hx), ?_⟩
    have h2 := hs.2.2.2
    rw [ShL_all] at h2 ⊢
    exact fun x hx => h2 x (hp2.mem_iff.1 hx)
  · have e0 : srtP ((ordL keys (ks.zip f)).map fun q => (q.1, q.2.srt)) = srtP (ks.zip (srtL f)) := by
      have e1 := zip_srt (ks.zip f)
      rw [z1, z2] at e1
      rw [e1]
      refine srtP_same (hp.map _) ?_
      rw [List.map_map]
      show ((ks.zip f).map Prod.fst).Nodup
      rw [z1]
      exact hnd
    simp only [ordV, Va.srt, zip_srt, e0]
  · simp only [ordV, zipB, ordL_again]
end Go.Proofs.Ytmdlcalnncncjaa

/- path.Merge. -/
set_option linter.unusedVariables false
set_option linter.unusedSimpArgs false
namespace Go.Proofs.Ytmdlcalnncncjaa
open Go.RowKit
def Va.keys : Va → List ByteArray
  | .mk _ _ _ _ ks _ => ks
/-- An object with another's pairs behind its own. -/
def catV : Va → Va → Va
  | .mk _ _ _ _ ks f, .mk _ _ _ _ ks2 f2 => .mk 5 0 ByteArray.empty [] (ks ++ ks2) (f ++ f2)
/-- A key is there twice. -/
def Two (y o : Va) (keys : List ByteArray) : Prop := Clash y.keys o.keys ∨ ¬ keys.Nodup
abbrev MArg (a : Va) (p : List St) (o : Va) : Prop := o.kd = 5 ∧ AllR a p [o]
/-- What Merge comes to. -/
def MrgC (a : Va) (p : List St) (o : Va) (keys : List ByteArray) (er : Int) (b : Va) : Prop :=
  (¬ MArg a p o ∧ er = 1 ∧ b = zeroVa) ∨ (MArg a p o ∧ goV a p = none ∧ er = 8 ∧ b = zeroVa) ∨ (∃ y, MArg a p o ∧ goV a p = some y ∧ ¬ y.kd = 5 ∧ er = 9 ∧ b = zeroVa) ∨ (∃ y, MArg a p o ∧ goV a p = some y ∧ y.kd = 5 ∧ Two y o keys ∧ er = 7 ∧ b = zeroVa) ∨
  (∃ y, MArg a p o ∧ goV a p = some y ∧ y.kd = 5 ∧ ¬ Two y o keys ∧ (putV a p (ordV keys (catV y o))).R 12 ∧ er = 0 ∧ b = putV a p (ordV keys (catV y o))) ∨ (∃ y, MArg a p o ∧ goV a p = some y ∧ y.kd = 5 ∧ ¬ Two y o keys ∧ ¬ (putV a p (ordV keys (catV y o))).R 12 ∧ er = 5 ∧ b = zeroVa)
theorem MrgC.same {a : Va} {p : List St} {o : Va} {keys : List ByteArray} {er er2 : Int} {b b2 : Va} (h1 : MrgC a p o keys er b) (h2 : MrgC a p o keys er2 b2) : er = er2 ∧ b = b2 := by
  unfold MrgC at h1 h2
  rcases h1 with ⟨a1, a2, a3⟩ | ⟨a1, a0, a2, a3⟩ | ⟨y, a1, a0, ak, a2, a3⟩ | ⟨y, a1, a0, ak, at_, a2, a3⟩ | ⟨y, a1, a0, ak, at_, ar, a2, a3⟩ | ⟨y, a1, a0, ak, at_, ar, a2, a3⟩ <;>
    rcases h2 with ⟨b1, b2, b3⟩ | ⟨b1, b0, b2, b3⟩ | ⟨z, b1, b0, bk, b2, b3⟩ | ⟨z, b1, b0, bk, bt_, b2, b3⟩ | ⟨z, b1, b0, bk, bt_, br, b2, b3⟩ | ⟨z, b1, b0, bk, bt_, br, b2, b3⟩
  all_goals first
    | exact absurd a1 b1
    | exact absurd b1 a1
    | (rw [a0] at b0; cases b0; done)
    | (rw [a0] at b0; injection b0 with b0; subst b0; first | exact absurd ak bk | exact absurd bk ak | exact absurd at_ bt_ | exact absurd bt_ at_ | exact absurd ar br | exact absurd br ar | exact ⟨by rw [a2, b2], by rw [a3, b3]⟩)
    | exact ⟨by rw [a2, b2], by rw [a3, b3]⟩
def MrgQ (a : Va) (p : List St) (o : Va) (keys : List ByteArray) (w : World) (e : Ending) (w' : World) : Prop := ∃ (b : Va) (h' : Hd) (er : Int), e = .returned (.tuple #[.agg #[.int .i64 h'.k, .int .i64 h'.n, .string h'.s, .slice h'.A h'.la h'.lc, .slice h'.F h'.lf h'.fc], .int .i64 er]) ∧ Below w.heap.size w w' ∧ Lies w' (fun _ => True) b h' ∧ MrgC a p o keys er b
theorem src_of_rowF {w : World} {S : Nat → Prop} {A : Option Addr} {us : List (ByteArray × Hd)} (h : RowAt w S 6 A (us.map pcells)) : SrcAt w A us.length (us.flatMap pcells) := by
  cases us with
  | nil =>
    cases A with
    | none => exact .inr ⟨rfl, rfl, rfl⟩
    | some ad => exact .inl ⟨ad, rfl, fun j u hu => by simp at hu⟩
  | cons u us =>
    obtain ⟨ad, e, -, hc⟩ := h (by simp)
    refine .inl ⟨ad, e, fun j c hj => ?_⟩
    have := row_news (w := w) (ad := ad) pcells 6 pcells_len (u :: us) 0 (fun i v hv j c hc2 => by rw [Nat.zero_add]; exact hc i (pcells v) (by rw [List.getElem?_map, hv]; rfl) j c hc2) j c hj
    rwa [Nat.zero_add] at this
theorem flat_lenF : ∀ us : List (ByteArray × Hd), (us.flatMap pcells).length = us.length * 6
  | [] => rfl
  | u :: us => by rw [List.flatMap_cons, List.length_append, flat_lenF us, pcells_len, List.length_cons]; omega
theorem flat_oneF (us : List (ByteArray × Hd)) : ∀ u ∈ us.flatMap pcells, u.oneCell' = true := by
  intro u hu
  obtain ⟨v, _, hv⟩ := List.mem_flatMap.1 hu
  simp only [pcells, Hd.cells, List.mem_cons, List.not_mem_nil, or_false] at hv
  rcases hv with rfl | rfl | rfl | rfl | rfl | rfl <;> rfl
/-- The joined object in memory. -/
theorem lies_joinF {w0 w6 w7 : World} {S S2 : Nat → Prop} {ks ks2 : List ByteArray} {f f2 : List Va} {us vs : List Hd} {h' : Hd} {A' : Option Addr} {n c' base xb : Nat} (hk : h'.k = 5) (hn : h'.n = 0) (hs : h'.s = ByteArray.empty) (hla : h'.la = 0) (hn2 : n = (f ++ f2).length) (hlm : (f ++ f2).length ≤ maxLen) (hkl : ks.length = f.length) (hkl2 : ks2.length = f2.length) (hkm : ∀ x ∈ ks ++ ks2, x.size ≤ maxLen)
    (hu : LiesL w0 S f us) (hv : LiesL w0 S f2 vs) (hS7 : ∀ b, S b → w7.heap[b]? = w0.heap[b]?) (hown : w6.ownsRow base 36 6 (.slice A' n c') n ((ks.zip us).flatMap pcells ++ (ks2.zip vs).flatMap pcells)) (hb7 : ∀ b, base ≤ b → b < w6.heap.size → w7.heap[b]? = w6.heap[b]?)
    (hA : ∀ b, S b → S2 b) (hB : ∀ b, base ≤ b → b < w6.heap.size → S2 b) :
    Lies w7 S2 (.mk 5 0 ByteArray.empty [] (ks ++ ks2) (f ++ f2)) ⟨h'.k, h'.n, h'.s, h'.A, h'.la, h'.lc, A', n, c'⟩ := by
  have hul := LiesL_len hu
  have hvl := LiesL_len hv
  have hz : ks.zip us ++ ks2.zip vs = (ks ++ ks2).zip (us ++ vs) := (List.zip_append (by omega)).symm
  have own7 : w7.ownsRow base 36 6 (.slice A' n c') n (((ks ++ ks2).zip (us ++ vs)).flatMap pcells) := own_block (by rw [← hz, List.flatMap_append]; exact hown) fun g hg => hb7 g (own_lo hown hg).1 (own_lo hown hg).2
  have cap := own_capZ own7
  unfold Lies
  refine ⟨⟨hk, hn, hs, hla, hn2, by simp [hkl, hkl2]⟩, ⟨by decide, by decide, by decide, hkm, by decide, hlm, Nat.zero_le _, by show (f ++ f2).length ≤ c'; omega⟩, ⟨[], fun h => by simp at h, by unfold LiesL; rfl⟩, ⟨us ++ vs, row_of_own pcells ((ks ++ ks2).zip (us ++ vs)) pcells_len own7 (fun g hg => hB g (own_lo hown hg).1 (own_lo hown hg).2) (.inr (by decide)), LiesL_mk (by simp [hul, hvl]) fun i y u hy hu2 => ?_⟩⟩
  have hk2 : ∀ y u, Lies w0 S y u → Lies w7 S2 y u := fun y u h => Lies.keep (fun q hq _ => World.cell?_of_block (hS7 _ hq)) (fun b hb _ => hA b hb) y u h
  by_cases e : i < f.length
  · rw [List.getElem?_append_left e] at hy
    rw [List.getElem?_append_left (by omega)] at hu2
    obtain ⟨u', hu', hl'⟩ := LiesL_at hu hy
    rw [hu2] at hu'
    cases hu'
    exact hk2 y u hl'
  · rw [List.getElem?_append_right (by omega)] at hy
    rw [List.getElem?_append_right (by omega), hul] at hu2
    obtain ⟨u', hu', hl'⟩ := LiesL_at hv hy
    rw [hu2] at hu'
    cases hu'
    exact hk2 y u hl'
/-- Two right objects joined. -/
theorem cat_all {ks ks2 : List ByteArray} {f f2 : List Va} (h1 : (Va.mk 5 0 ByteArray.empty [] ks f).R 12) (h2 : (Va.mk 5 0 ByteArray.empty [] ks2 f2).R 12) (hc : ¬ Clash ks ks2) : (Va.mk 5 0 ByteArray.empty [] (ks ++ ks2) (f ++ f2)).R 12 := by
  simp only [Va.R] at h1 h2 ⊢
  obtain ⟨-, t1, k1, l1, f1⟩ := h1
  obtain ⟨-, t2, k2, -, g2⟩ := h2
  refine ⟨by decide, ⟨t1.k0, t1.k5, t1.c1, t1.c2, t1.c3, fun h => h.1 rfl, t1.c5, t1.c6, t1.c7, t1.c8⟩, ⟨fun x hx => ?_, ?_⟩, l1, (RL_app _ _ _).2 ⟨f1, g2⟩⟩
  · rcases List.mem_append.1 hx with hx | hx
    · exact k1.1 x hx
    · exact k2.1 x hx
  · rw [List.nodup_append]
    exact ⟨k1.2, k2.2, fun x hx y hy e => hc ⟨y, hy, e ▸ hx⟩⟩
theorem cat_sh {ks ks2 : List ByteArray} {f f2 : List Va} {m n : Nat} (h1 : (Va.mk 5 0 ByteArray.empty [] ks f).Sh) (h2 : (Va.mk 5 0 ByteArray.empty [] ks2 f2).Sh) (c1 : (Va.mk 5 0 ByteArray.empty [] ks f).cnt ≤ m) (c2 : (Va.mk 5 0 ByteArray.empty [] ks2 f2).cnt ≤ n) : (Va.mk 5 0 ByteArray.empty [] (ks ++ ks2) (f ++ f2)).Sh ∧ (Va.mk 5 0 ByteArray.empty [] (ks ++ ks2) (f ++ f2)).cnt ≤ m + n := by
  simp only [Va.Sh, Va.cnt] at h1 h2 c1 c2 ⊢
  rw [cntL_app, ShL_app]
  refine ⟨⟨h1.1, h1.2.1, fun x hx => ?_, h1.2.2.2, h2.2.2.2⟩, by omega⟩
  rcases List.mem_append.1 hx with hx | hx
  · exact h1.2.2.1 x hx
  · exact h2.2.2.1 x hx
theorem out_setF {O n : Nat} {v : Option Addr} {c : Nat} {u : Hd} : ∀ W : World, W.rowIs O 25 5 (hdAt u) → (W.setCell ⟨O, 4, none⟩ (.slice v n c)).rowIs O 25 5 (hdAt ⟨u.k, u.n, u.s, u.A, u.la, u.lc, v, n, c⟩) := fun W H => by
  refine (H.set 4 _).congr (fun j hj => ?_)
  match j, hj with
  | 0, _ => rfl
  | 1, _ => rfl
  | 2, _ => rfl
  | 3, _ => rfl
  | 4, _ => rfl
set_option maxHeartbeats 8000000 in
set_option maxRecDepth 100000 in
theorem merge_prog (a o : Va) (S S' : Nat → Prop) (h hx : Hd) (w : World) (A : Option Addr) (m c : Nat) (p : List St) (K : Option Addr) (kc : Nat) (keys : List ByteArray) (H : Lies w S a h) (HX : Lies w S' o hx) (hsh : a.Sh) (hcn : a.cnt ≤ 60) (hxs : o.Sh) (hxc : o.cnt ≤ 60) (hA : PathAt w A p) (hm : m = p.length) (hc : m ≤ c) (hp : m ≤ 1000) (hK : Rd w K keys.length (keys.map Value.string)) (hkl : keys.length ≤ 1000) (hkz : ∀ x ∈ keys, x.size ≤ maxLen) :
    Calls Try.prog 54 #[h.val, .slice A m c, hx.val, .slice K keys.length kc] w fun e w' => MrgQ a p o keys w e w' := by
  have HS := Lib.hid (show Lies w (fun b => b < w.heap.size) a h from Lies.keep (fun _ _ _ => rfl) (fun b _ hb => hb) _ _ H)
  have HSX := Lib.hid (show Lies w (fun b => b < w.heap.size) o hx from Lies.keep (fun _ _ _ => rfl) (fun b _ hb => hb) _ _ HX)
  have HSH := Lib.hid hsh
  have HXS := Lib.hid hxs
  have HA := Lib.hid hA
  have HM := Lib.hid hm
  have HCA := Lib.hid hcn
  have HCX := Lib.hid hxc
  have HKR := Lib.hid hK
  have HKZ := Lib.hid hkz
  have HT0 := Lib.hid (TB.start w h hx)
  obtain ⟨ok, on, os, ol, ks2, f2⟩ := o
  have hoL := HX
  simp only [Lies] at hoL
  obtain ⟨⟨o1, o2, o3, o4, o5, o6⟩, ⟨-, -, -, o7, -⟩, -⟩ := hoL
  have HOE := Lib.hid (show hx.k = ok ∧ hx.lf = f2.length ∧ ks2.length = f2.length ∧ ∀ x ∈ ks2, x.size ≤ maxLen from ⟨o1, o5, o6, o7⟩)
  clear H HX hsh hcn hxs hxc hA hm hK hkz o1 o2 o3 o4 o5 o6 o7
  unfold Hd.val at *
  go_enter Try.func54, Try.ntmps54
  go_upto_region 1 with fail
  generalize (((w.alloc (Obj.cells #[.int .i64 h.k, .int .i64 h.n, .string h.s, .slice h.A h.la h.lc, .slice h.F h.lf h.fc] 25)).alloc (Obj.cells #[.int .i64 hx.k, .int .i64 hx.n, .string hx.s, .slice hx.A hx.la hx.lc, .slice hx.F hx.lf hx.fc] 25)).alloc (Obj.cells #[.int .i64 0, .int .i64 0, .string { data := #[] }, .slice none 0 0, .slice none 0 0] 25)) = w3 at HT0 ⊢
  have hs3 := HT0.out.sz
  have x0 := HT0.out.bx.2 0 _ rfl
  have x1 := HT0.out.bx.2 1 _ rfl
  have x2 := HT0.out.bx.2 2 _ rfl
  have x3 := HT0.out.bx.2 3 _ rfl
  have x4 := HT0.out.bx.2 4 _ rfl
  by_cases hk5 : hx.k = 5
  case neg =>
    have hk' : (hx.k != 5) = true := by simpa using hk5
    have HNO : Hid (¬ MArg a p (.mk ok on os ol ks2 f2)) := Lib.hid (fun q => hk5 (HOE.out.1.trans q.1))
    clear hk5
    have z0 := HT0.out.res.cell (show 0 < 5 by decide)
    have z1 := HT0.out.res.cell (show 1 < 5 by decide)
    have z2 := HT0.out.res.cell (show 2 < 5 by decide)
    have z3 := HT0.out.res.cell (show 3 < 5 by decide)
    have z4 := HT0.out.res.cell (show 4 < 5 by decide)
    have g0 := HT0.out.res.frozen 0
    have g1 := HT0.out.res.frozen 1
    have g2 := HT0.out.res.frozen 2
    have g3 := HT0.out.res.frozen 3
    have g4 := HT0.out.res.frozen 4
    simp only [hdAt, Hd.cells, List.getD_cons_succ, List.getD_cons_zero] at z0 z1 z2 z3 z4
    go_wp2_with fail
    refine bodyPost_ret (v := .tuple #[.agg #[.int .i64 0, .int .i64 0, .string ⟨#[]⟩, .slice none 0 0, .slice none 0 0], .int .i64 1]) (by simp [results, Try.results54, go_sem, z0, z1, z2, z3, z4]; try rfl) rfl ?_
    exact ⟨zeroVa, zeroHd, 1, rfl, res_below HT0.out.bel (by omega), lies_zero _ _, .inl ⟨HNO.out, rfl, rfl⟩⟩
  have hk' : (hx.k != 5) = false := by simp [hk5]
  obtain rfl : ok = 5 := HOE.out.1.symm.trans hk5
  clear hk5
  have hb5 := HT0.out.bel.trans ((one_alloc w3 (Obj.cells #[.int .i64 hx.k, .int .i64 hx.n, .string hx.s, .slice hx.A hx.la hx.lc, .slice hx.F hx.lf hx.fc] 25)).mono HT0.out.bel.size)
  have HTB := Lib.hid (HT0.out.go (one_alloc _ (Obj.cells #[.int .i64 hx.k, .int .i64 hx.n, .string hx.s, .slice hx.A hx.la hx.lc, .slice hx.F hx.lf hx.fc] 25)) HT0.out.sz)
  have K1 := Lib.hid (target_any (fun b => b < w.heap.size) a h _ A m c p _ 1 1 [.mk 5 on os ol ks2 f2] (fun b hb => by have := hb5.size; omega) (HS.out.below hb5 (Nat.le_refl _)) HSH.out (Nat.le_trans HCA.out (by decide)) (HA.out.below hb5 (Nat.le_refl _)) HM.out hc hp (InsAt.one (show Lies w3 (fun _ => True) (.mk 5 on os ol ks2 f2) hx from Lies.keep (fun _ _ _ => rfl) (fun _ _ _ => trivial) _ _ (HSX.out.below HT0.out.bel (Nat.le_refl _))) HXS.out (Nat.le_trans HCX.out (by decide))) rfl (by decide))
  unfold Hd.val at K1
  clear hb5
  have q0 := HT0.out.bv.2 0 _ rfl
  have q1 := HT0.out.bv.2 1 _ rfl
  have q2 := HT0.out.bv.2 2 _ rfl
  have q3 := HT0.out.bv.2 3 _ rfl
  have q4 := HT0.out.bv.2 4 _ rfl
  go_wp2_with fail
  refine K1.out.mono ?_
  rintro e w1 ⟨b, h', er, rfl, hb1, hl1, ho1⟩
  have HT1 := Lib.hid (HTB.out.go hb1 HTB.out.sz)
  have HO1 := Lib.hid ho1
  have HL1 := Lib.hid hl1
  clear hb1 hl1 ho1 K1 HTB HT0 x0 x1 x2 x3 x4 q0 q1 q2 q3 q4 hk'
  go_upto_region 4 with fail
  have hb4 := one_alloc w1 (Obj.cells #[.int .i64 h'.k, .int .i64 h'.n, .string h'.s, .slice h'.A h'.la h'.lc, .slice h'.F h'.lf h'.fc] 25)
  have hcx : (w1.alloc (Obj.cells #[.int .i64 h'.k, .int .i64 h'.n, .string h'.s, .slice h'.A h'.la h'.lc, .slice h'.F h'.lf h'.fc] 25)).rowIs w1.heap.size 25 5 (hdAt h') := hdAt_row (heap_alloc_new _ _)
  generalize w1.alloc (Obj.cells #[.int .i64 h'.k, .int .i64 h'.n, .string h'.s, .slice h'.A h'.la h'.lc, .slice h'.F h'.lf h'.fc] 25) = w4 at hb4 hcx ⊢
  have HT4 := Lib.hid (HT1.out.go hb4 HT1.out.sz)
  have HL4 := Lib.hid (HL1.out.below hb4 (Nat.le_refl _))
  have HCX4 := Lib.hid hcx
  have hxl := hcx.lt
  have hs1 := HT1.out.sz
  have hs4 := hb4.size
  have x0 := hcx.cell (show 0 < 5 by decide)
  have x1 := hcx.cell (show 1 < 5 by decide)
  have x2 := hcx.cell (show 2 < 5 by decide)
  have x3 := hcx.cell (show 3 < 5 by decide)
  have x4 := hcx.cell (show 4 < 5 by decide)
  have fz0 := hcx.frozen 0
  have fz1 := hcx.frozen 1
  have fz2 := hcx.frozen 2
  have fz3 := hcx.frozen 3
  have fz4 := hcx.frozen 4
  simp only [hdAt, Hd.cells, List.getD_cons_succ, List.getD_cons_zero] at x0 x1 x2 x3 x4
  clear hb4 hcx HT1 HL1
  by_cases he : er = 0
  case neg =>
    have he' := bq_no he
    have HNO : Hid (MrgC a p (.mk 5 on os ol ks2 f2) keys er zeroVa) := Lib.hid (by
      rcases HO1.out with ⟨h1, h2, _⟩ | ⟨h1, h2, _, h3⟩ | ⟨_, h1, _⟩
      · exact .inl ⟨fun q => h1 q.2, h2, rfl⟩
      · exact .inr (.inl ⟨⟨rfl, h1⟩, h3, h2, rfl⟩)
      · exact absurd h1 he)
    clear he
    have z0 := HT4.out.res.cell (show 0 < 5 by decide)
    have z1 := HT4.out.res.cell (show 1 < 5 by decide)
    have z2 := HT4.out.res.cell (show 2 < 5 by decide)
    have z3 := HT4.out.res.cell (show 3 < 5 by decide)
    have z4 := HT4.out.res.cell (show 4 < 5 by decide)
    have g0 := HT4.out.res.frozen 0
    have g1 := HT4.out.res.frozen 1
    have g2 := HT4.out.res.frozen 2
    have g3 := HT4.out.res.frozen 3
    have g4 := HT4.out.res.frozen 4
    simp only [hdAt, Hd.cells, List.getD_cons_succ, List.getD_cons_zero] at z0 z1 z2 z3 z4
    go_wp2_with fail
    refine bodyPost_ret (v := .tuple #[.agg #[.int .i64 0, .int .i64 0, .string ⟨#[]⟩, .slice none 0 0, .slice none 0 0], .int .i64 er]) (by simp [results, Try.results54, go_sem, z0, z1, z2, z3, z4]; try rfl) rfl ?_
    exact ⟨zeroVa, zeroHd, er, rfl, res_below HT4.out.bel (by omega), lies_zero _ _, HNO.out⟩
  subst he
  have HYES : Hid (MArg a p (.mk 5 on os ol ks2 f2) ∧ goV a p = some b) := Lib.hid (by
    rcases HO1.out with ⟨_, h1, _⟩ | ⟨_, h1, _⟩ | ⟨h0, _, h1⟩
    · exact absurd h1 (by decide)
    · exact absurd h1 (by decide)
    · exact ⟨⟨rfl, h0⟩, h1⟩)
  clear HO1
  have HOR : Hid ((Va.mk 5 on os ol ks2 f2).R 12) := Lib.hid (HYES.out.1.2.2.2 _ (by simp))
  have HBR := Lib.hid (goV_R HYES.out.1.2.1 HYES.out.2)
  have HBS := Lib.hid (goV_sh HSH.out HYES.out.2)
  have HBC := Lib.hid (goV_cnt HCA.out HYES.out.2)
  obtain ⟨bk, bnn, bs, l, ks, f⟩ := b
  have hL := HL4.out
  simp only [Lies] at hL
  obtain ⟨⟨e1, e2, e3, e4, e5, e6⟩, ⟨-, -, -, e7, -⟩, -⟩ := hL
  have HE := Lib.hid (show h'.k = bk ∧ h'.n = bnn ∧ h'.s = bs ∧ h'.la = l.length ∧ h'.lf = f.length ∧ ks.length = f.length ∧ ∀ x ∈ ks, x.size ≤ maxLen from ⟨e1, e2, e3, e4, e5, e6, e7⟩)
  clear e1 e2 e3 e4 e5 e6 e7
  by_cases hk : h'.k = 5
  case neg =>
    have hk' : (h'.k != 5) = true := by simpa using hk
    have HK := Lib.hid hk
    clear hk
    have z0 := HT4.out.res.cell (show 0 < 5 by decide)
    have z1 := HT4.out.res.cell (show 1 < 5 by decide)
    have z2 := HT4.out.res.cell (show 2 < 5 by decide)
    have z3 := HT4.out.res.cell (show 3 < 5 by decide)
    have z4 := HT4.out.res.cell (show 4 < 5 by decide)
    have g0 := HT4.out.res.frozen 0
    have g1 := HT4.out.res.frozen 1
    have g2 := HT4.out.res.frozen 2
    have g3 := HT4.out.res.frozen 3
    have g4 := HT4.out.res.frozen 4
    simp only [hdAt, Hd.cells, List.getD_cons_succ, List.getD_cons_zero] at z0 z1 z2 z3 z4
    go_wp2_with fail
    refine bodyPost_ret (v := .tuple #[.agg #[.int .i64 0, .int .i64 0, .string ⟨#[]⟩, .slice none 0 0, .slice none 0 0], .int .i64 9]) (by simp [results, Try.results54, go_sem, z0, z1, z2, z3, z4]; try rfl) rfl ?_
    exact ⟨zeroVa, zeroHd, 9, rfl, res_below HT4.out.bel (by omega), lies_zero _ _, .inr (.inr (.inl ⟨_, HYES.out.1, HYES.out.2, fun e => HK.out (HE.out.1.trans e), rfl, rfl⟩))⟩
  have hk' : (h'.k != 5) = false := by simp [hk]
  obtain rfl : bk = 5 := HE.out.1.symm.trans hk
  obtain ⟨rfl, rfl, rfl, hnd⟩ := obj_R HBR.out
  obtain ⟨rfl, rfl, rfl, hnd2⟩ := obj_R HOR.out
  have HND := Lib.hid hnd
  have HK5 := Lib.hid hk
  have hfl : f.length ≤ 60 := by have h1 := len_le_cntL f; have h2 := HBC.out; simp only [Va.cnt] at h2; omega
  have hfl2 : f2.length ≤ 60 := by have h1 := len_le_cntL f2; have h2 := HCX.out; simp only [Va.cnt] at h2; omega
  have hlf : h'.lf = f.length := HE.out.2.2.2.2.1
  have hlf2 : hx.lf = f2.length := HOE.out.2.1
  have hb3 := HT4.out.bx
  have K8 := both_any ks ks2 h'.F hx.F h'.fc hx.fc w4 (by have := HE.out.2.2.2.2.2.1; omega) (by have := HOE.out.2.2.1; omega) HE.out.2.2.2.2.2.2 HOE.out.2.2.2 HND.out (HL4.out.op.keys HE.out.2.2.2.2.2.1) ((HSX.out.below HT4.out.bel (Nat.le_refl _)).op.keys HOE.out.2.2.1)
  rw [show ks.length = h'.lf by rw [hlf]; exact HE.out.2.2.2.2.2.1, show ks2.length = hx.lf by rw [hlf2]; exact HOE.out.2.2.1] at K8
  have K8 := Lib.hid K8
  have HLF := Lib.hid hlf
  have HLF2 := Lib.hid hlf2
  have y4 := hb3.2 4 _ rfl
  clear hk hnd hnd2 hb3 hlf hlf2
  go_wp2_with fail
  refine K8.out.mono ?_
  rintro e w5 ⟨r, rfl, hr, hb5⟩
  have HR := Lib.hid hr
  have HT5 := Lib.hid (HT4.out.go hb5 (by omega))
  have HL5 := Lib.hid (HL4.out.below hb5 (Nat.le_refl _))
  have hcx5 := rowIs_below HCX4.out hb5 hxl
  have HCX5 := Lib.hid hcx5
  have hs5 := hb5.size
  have HB45 := Lib.hid hb5
  clear hr hb5 K8 x0 x1 x2 x3 x4 fz0 fz1 fz2 fz3 fz4 y4 hk'
  cases r
  case true =>
    have HTW : Hid (Two (.mk 5 0 ByteArray.empty [] ks f) (.mk 5 0 ByteArray.empty [] ks2 f2) keys) := Lib.hid (.inl (HR.out.1 rfl))
    clear hcx5
    have z0 := HT5.out.res.cell (show 0 < 5 by decide)
    have z1 := HT5.out.res.cell (show 1 < 5 by decide)
    have z2 := HT5.out.res.cell (show 2 < 5 by decide)
    have z3 := HT5.out.res.cell (show 3 < 5 by decide)
    have z4 := HT5.out.res.cell (show 4 < 5 by decide)
    have g0 := HT5.out.res.frozen 0
    have g1 := HT5.out.res.frozen 1
    have g2 := HT5.out.res.frozen 2
    have g3 := HT5.out.res.frozen 3
    have g4 := HT5.out.res.frozen 4
    simp only [hdAt, Hd.cells, List.getD_cons_succ, List.getD_cons_zero] at z0 z1 z2 z3 z4
    go_wp2_with fail
    refine bodyPost_ret (v := .tuple #[.agg #[.int .i64 0, .int .i64 0, .string ⟨#[]⟩, .slice none 0 0, .slice none 0 0], .int .i64 7]) (by simp [results, Try.results54, go_sem, z0, z1, z2, z3, z4]; try rfl) rfl ?_
    exact ⟨zeroVa, zeroHd, 7, rfl, res_below HT5.out.bel (by omega), lies_zero _ _, .inr (.inr (.inr (.inl ⟨_, HYES.out.1, HYES.out.2, rfl, HTW.out, rfl, rfl⟩)))⟩
  have HNC : Hid (¬ Clash ks ks2) := Lib.hid (fun q => by have := HR.out.2 q; cases this)
  clear HR
  have x4 := hcx5.cell (show 4 < 5 by decide)
  have fz4 := hcx5.frozen 4
  have y4 := HT5.out.bx.2 4 _ rfl
  simp only [hdAt, Hd.cells, List.getD_cons_succ, List.getD_cons_zero] at x4
  obtain ⟨us0, us, -, hul, -, -, hrF, hLF⟩ := HL5.out.rows
  obtain ⟨vs0, vs, -, hvl, -, -, hrG, hLG⟩ := (HSX.out.below HT5.out.bel (Nat.le_refl _)).rows
  have hzl : (ks.zip us).length = h'.lf := by rw [List.length_zip, hul, HE.out.2.2.2.2.2.1, Nat.min_self, HLF.out]
  have hzl2 : (ks2.zip vs).length = hx.lf := by rw [List.length_zip, hvl, HOE.out.2.2.1, Nat.min_self, HLF2.out]
  have hSF : SrcAt w5 h'.F h'.lf ((ks.zip us).flatMap pcells) := by rw [← hzl]; exact src_of_rowF hrF
  have hSG : SrcAt w5 hx.F hx.lf ((ks2.zip vs).flatMap pcells) := by rw [← hzl2]; exact src_of_rowF hrG
  have hba := one_alloc w5 (Obj.cells #[.slice h'.F h'.lf h'.fc, .slice hx.F hx.lf hx.fc] 23)
  have hlm : h'.lf ≤ 60 := by have := HLF.out; omega
  have hlm2 : hx.lf ≤ 60 := by have := HLF2.out; omega
  have K6 := Lib.hid (concatF h'.F hx.F h'.lf hx.lf h'.fc hx.fc 0 ⟨w5.heap.size, 0, none⟩ ((ks.zip us).flatMap pcells) ((ks2.zip vs).flatMap pcells) (w5.alloc (Obj.cells #[.slice h'.F h'.lf h'.fc, .slice hx.F hx.lf hx.fc] 23)) (by rw [World.cell?_alloc_new]; rfl) (by rw [World.cell?_alloc_new]; rfl) (by omega) (by omega)
    (hSF.below hba (Nat.le_refl _)) (hSG.below hba (Nat.le_refl _)) (by rw [← hzl]; exact flat_lenF _) (by rw [← hzl2]; exact flat_lenF _) (flat_oneF _) (flat_oneF _))
  have HLFL := Lib.hid hLF
  have HLGL := Lib.hid hLG
  have HLN := Lib.hid (show h'.lf + hx.lf = (f ++ f2).length by rw [List.length_append, HLF.out, HLF2.out])
  have hxl5 : w1.heap.size < w5.heap.size := by omega
  clear hrF hLF hrG hLG hzl hzl2 hul hvl hSF hSG hba hcx5
  go_wp2_with fail
  refine K6.out.mono ?_
  rintro e w6 ⟨A', c', rfl, hown, hb6⟩
  have hb56 := (after_alloc hb6).1
  have hs6 := hb56.size
  have HOWN := Lib.hid (own_base hown (show w5.heap.size ≤ (w5.alloc (Obj.cells #[.slice h'.F h'.lf h'.fc, .slice hx.F hx.lf hx.fc] 23)).heap.size by simp))
  have hc6 := rowIs_below HCX5.out hb56 hxl5
  have HC6 := Lib.hid hc6
  have HB56 := Lib.hid hb56
  have x4 := hc6.cell (show 4 < 5 by decide)
  have fz4 := hc6.frozen 4
  simp only [hdAt, Hd.cells, List.getD_cons_succ, List.getD_cons_zero] at x4
  clear hb6 hown hb56 hc6 K6
  have hxl6 : w1.heap.size < w6.heap.size := by omega
  go_upto_region 11 with fail
  clear x4 fz4 y4
  have hr7 : (w6.setCell ⟨w1.heap.size, 4, none⟩ (.slice A' (h'.lf + hx.lf) c')).rowIs w1.heap.size 25 5 (hdAt ⟨h'.k, h'.n, h'.s, h'.A, h'.la, h'.lc, A', h'.lf + hx.lf, c'⟩) := out_setF _ HC6.out
  have hk7 : ∀ b, b ≠ w1.heap.size → (w6.setCell ⟨w1.heap.size, 4, none⟩ (.slice A' (h'.lf + hx.lf) c')).heap[b]? = w6.heap[b]? := fun b hb => Below.heap_setCell _ _ _ _ hb
  have hs7 : (w6.setCell ⟨w1.heap.size, 4, none⟩ (.slice A' (h'.lf + hx.lf) c')).heap.size = w6.heap.size := by simp
  have hb7 : Below w.heap.size w (w6.setCell ⟨w1.heap.size, 4, none⟩ (.slice A' (h'.lf + hx.lf) c')) := (HT5.out.bel.trans (HB56.out.mono HT5.out.bel.size)).setCell (by show w.heap.size ≤ w1.heap.size; omega) _
  have ht7 : TB w h hx (w6.setCell ⟨w1.heap.size, 4, none⟩ (.slice A' (h'.lf + hx.lf) c')) := (HT5.out.go HB56.out (by omega)).go (((Below.refl w1.heap.size w6)).setCell (Nat.le_refl _) _) (by omega)
  generalize (w6.setCell ⟨w1.heap.size, 4, none⟩ (.slice A' (h'.lf + hx.lf) c')) = w7 at hr7 hk7 hs7 hb7 ht7 ⊢
  have HB7 := Lib.hid hb7
  have HT7 := Lib.hid ht7
  have HK7 := Lib.hid hk7
  have HR7 := Lib.hid hr7
  have hs67 : w6.heap.size ≤ w7.heap.size := by omega
  have HLX : Hid (Lies w7 (fun b => b < w7.heap.size) (.mk 5 0 ByteArray.empty [] (ks ++ ks2) (f ++ f2)) ⟨h'.k, h'.n, h'.s, h'.A, h'.la, h'.lc, A', h'.lf + hx.lf, c'⟩) := Lib.hid (lies_joinF (w0 := w5) (S := fun b => b < w.heap.size) (xb := w1.heap.size) HK5.out HE.out.2.1 HE.out.2.2.1 HE.out.2.2.2.1 HLN.out (by have := HLN.out; unfold maxLen; omega) HE.out.2.2.2.2.2.1 HOE.out.2.2.1 (fun x hx => by
    rcases List.mem_append.1 hx with hx | hx
    · exact HE.out.2.2.2.2.2.2 x hx
    · exact HOE.out.2.2.2 x hx) HLFL.out HLGL.out (fun b hb => by rw [HK7.out b (by omega)]; exact HB56.out.block b (by omega)) HOWN.out (fun b h1 h2 => HK7.out b (by omega)) (fun b hb => by omega) (fun b h1 h2 => by omega))
  have HXR : Hid ((Va.mk 5 0 ByteArray.empty [] (ks ++ ks2) (f ++ f2)).R 12) := Lib.hid (cat_all HBR.out HOR.out HNC.out)
  have HJS := Lib.hid (cat_sh HBS.out HXS.out HBC.out HCX.out)
  have KO := Lib.hid (ordered_prog 5 0 ByteArray.empty [] (ks ++ ks2) (f ++ f2) _ ⟨h'.k, h'.n, h'.s, h'.A, h'.la, h'.lc, A', h'.lf + hx.lf, c'⟩ w7 K kc keys HLX.out HJS.out.1 (Nat.le_trans HJS.out.2 (by decide)) (HKR.out.below HB7.out (Nat.le_refl _)) hkl HKZ.out)
  unfold Hd.val at KO
  have x0 := hr7.cell (show 0 < 5 by decide)
  have x1 := hr7.cell (show 1 < 5 by decide)
  have x2 := hr7.cell (show 2 < 5 by decide)
  have x3 := hr7.cell (show 3 < 5 by decide)
  have x4 := hr7.cell (show 4 < 5 by decide)
  have fz0 := hr7.frozen 0
  have fz1 := hr7.frozen 1
  have fz2 := hr7.frozen 2
  have fz3 := hr7.frozen 3
  have fz4 := hr7.frozen 4
  simp only [hdAt, Hd.cells, List.getD_cons_succ, List.getD_cons_zero] at x0 x1 x2 x3 x4
  clear hr7 hk7 hb7 ht7
  go_wp2_with fail
  refine KO.out.mono ?_
  rintro e w8 ⟨b8, h8, er, rfl, hb8, hl8, ho8⟩
  have HT8 := Lib.hid (HT7.out.go hb8 (by omega))
  have hr8 := rowIs_below HR7.out hb8 (by omega)
  have HR8 := Lib.hid hr8
  have HL8 := Lib.hid (show Lies w8 (fun x => w7.heap.size ≤ x) b8 h8 from hl8)
  have hs8 := hb8.size
  have HO8 := Lib.hid ho8
  clear hb8 hl8 ho8 KO x0 x1 x2 x3 x4 fz0 fz1 fz2 fz3 fz4
  have x0 := hr8.cell (show 0 < 5 by decide)
  have x1 := hr8.cell (show 1 < 5 by decide)
  have x2 := hr8.cell (show 2 < 5 by decide)
  have x3 := hr8.cell (show 3 < 5 by decide)
  have x4 := hr8.cell (show 4 < 5 by decide)
  have fz0 := hr8.frozen 0
  have fz1 := hr8.frozen 1
  have fz2 := hr8.frozen 2
  have fz3 := hr8.frozen 3
  have fz4 := hr8.frozen 4
  simp only [hdAt, Hd.cells, List.getD_cons_succ, List.getD_cons_zero] at x0 x1 x2 x3 x4
  clear hr8
  go_upto_region 12 with fail
  clear x0 x1 x2 x3 x4 fz0 fz1 fz2 fz3 fz4
  have hr9 := resW_row (u := h8) HR8.out
  have hk9 := res_set (w := w) (wr := w8) (R := w1.heap.size) (hk := h8.k) (hnn := h8.n) (hs := h8.s) (A := h8.A) (la := h8.la) (lc := h8.lc) (F := h8.F) (lf := h8.lf) (fc := h8.fc)
  have hb9 : Below w1.heap.size w8 (((((w8.setCell ⟨w1.heap.size, 0, none⟩ (.int .i64 h8.k)).setCell ⟨w1.heap.size, 1, none⟩ (.int .i64 h8.n)).setCell ⟨w1.heap.size, 2, none⟩ (.string h8.s)).setCell ⟨w1.heap.size, 3, none⟩ (.slice h8.A h8.la h8.lc)).setCell ⟨w1.heap.size, 4, none⟩ (.slice h8.F h8.lf h8.fc)) := res_below (Below.refl _ _) (Nat.le_refl _)
  have hs9 : (((((w8.setCell ⟨w1.heap.size, 0, none⟩ (.int .i64 h8.k)).setCell ⟨w1.heap.size, 1, none⟩ (.int .i64 h8.n)).setCell ⟨w1.heap.size, 2, none⟩ (.string h8.s)).setCell ⟨w1.heap.size, 3, none⟩ (.slice h8.A h8.la h8.lc)).setCell ⟨w1.heap.size, 4, none⟩ (.slice h8.F h8.lf h8.fc)).heap.size = w8.heap.size := by simp
  generalize (((((w8.setCell ⟨w1.heap.size, 0, none⟩ (.int .i64 h8.k)).setCell ⟨w1.heap.size, 1, none⟩ (.int .i64 h8.n)).setCell ⟨w1.heap.size, 2, none⟩ (.string h8.s)).setCell ⟨w1.heap.size, 3, none⟩ (.slice h8.A h8.la h8.lc)).setCell ⟨w1.heap.size, 4, none⟩ (.slice h8.F h8.lf h8.fc)) = w9 at hr9 hk9 hb9 hs9 ⊢
  have HT9 := Lib.hid (HT8.out.go hb9 (by omega))
  have HL9 := Lib.hid (show Lies w9 (fun b => b < w9.heap.size) b8 h8 from Lies.keep (fun q hq hl => World.cell?_of_block (hk9 _ (by omega))) (fun b hb hl => by omega) _ _ HL8.out)
  have hr9' := hr9
  clear hk9 hb9
  by_cases he : er = 0
  case neg =>
    have he' := bq_no he
    have HTW : Hid (er = 7 ∧ Two (.mk 5 0 ByteArray.empty [] ks f) (.mk 5 0 ByteArray.empty [] ks2 f2) keys) := Lib.hid (by
      rcases HO8.out with ⟨h1, -⟩ | ⟨-, h1, h2, -⟩ | ⟨-, -, h2, -⟩
      · exact absurd ⟨HK5.out, HXR.out⟩ h1
      · exact ⟨h2, .inr h1⟩
      · exact absurd h2 he)
    have HMC : Hid (MrgC a p (.mk 5 0 ByteArray.empty [] ks2 f2) keys er zeroVa) := Lib.hid (.inr (.inr (.inr (.inl ⟨_, HYES.out.1, HYES.out.2, rfl, HTW.out.2, HTW.out.1, rfl⟩))))
    clear he hr9 hr9'
    have z0 := HT9.out.res.cell (show 0 < 5 by decide)
    have z1 := HT9.out.res.cell (show 1 < 5 by decide)
    have z2 := HT9.out.res.cell (show 2 < 5 by decide)
    have z3 := HT9.out.res.cell (show 3 < 5 by decide)
    have z4 := HT9.out.res.cell (show 4 < 5 by decide)
    have g0 := HT9.out.res.frozen 0
    have g1 := HT9.out.res.frozen 1
    have g2 := HT9.out.res.frozen 2
    have g3 := HT9.out.res.frozen 3
    have g4 := HT9.out.res.frozen 4
    simp only [hdAt, Hd.cells, List.getD_cons_succ, List.getD_cons_zero] at z0 z1 z2 z3 z4
    go_wp2_with fail
    refine bodyPost_ret (v := .tuple #[.agg #[.int .i64 0, .int .i64 0, .string ⟨#[]⟩, .slice none 0 0, .slice none 0 0], .int .i64 er]) (by simp [results, Try.results54, go_sem, z0, z1, z2, z3, z4]; try rfl) rfl ?_
    exact ⟨zeroVa, zeroHd, er, rfl, res_below HT9.out.bel (by omega), lies_zero _ _, HMC.out⟩
  subst he
  have HB8 : Hid (keys.Nodup ∧ b8 = ordV keys (catV (.mk 5 0 ByteArray.empty [] ks f) (.mk 5 0 ByteArray.empty [] ks2 f2))) := Lib.hid (by
    rcases HO8.out with ⟨h1, -⟩ | ⟨-, -, h2, -⟩ | ⟨-, h1, -, h2⟩
    · exact absurd ⟨HK5.out, HXR.out⟩ h1
    · exact absurd h2 (by decide)
    · exact ⟨h1, h2⟩)
  have HNT : Hid (¬ Two (.mk 5 0 ByteArray.empty [] ks f) (.mk 5 0 ByteArray.empty [] ks2 f2) keys) := Lib.hid (fun q => by
    rcases q with q | q
    · exact HNC.out q
    · exact q HB8.out.1)
  clear HO8
  have HBE := Lib.hid HB8.out.2
  have HALL := Lib.hid (ord_all (keys := keys) HB8.out.1 (show (ks ++ ks2).length = (f ++ f2).length by simp [HE.out.2.2.2.2.2.1, HOE.out.2.2.1]) HXR.out)
  have HSH8 : Hid (b8.Sh) := Lib.hid (by rw [HBE.out]; exact HALL.out.2.2.1 HJS.out.1)
  have HCN8 : Hid (b8.cnt ≤ 400) := Lib.hid (by rw [HBE.out]; exact Nat.le_trans (Nat.le_of_eq HALL.out.2.1) (Nat.le_trans HJS.out.2 (by decide)))
  have KC := Lib.hid (changed_any (fun b => b < w9.heap.size) b8 h8 p a h w9 A m c (fun b hb => hb) (Lies.keep (fun _ _ _ => rfl) (fun b _ hb => hb) _ _ (HS.out.below HT9.out.bel (Nat.le_refl _))) HL9.out (HA.out.below HT9.out.bel (Nat.le_refl _)) HYES.out.1.2.2.1.2 HM.out hc hp HSH.out (Nat.le_trans HCA.out (by decide)) HSH8.out HCN8.out (by rw [HYES.out.2]; rfl))
  unfold Hd.val at KC
  have q0 := HT9.out.bv.2 0 _ rfl
  have q1 := HT9.out.bv.2 1 _ rfl
  have q2 := HT9.out.bv.2 2 _ rfl
  have q3 := HT9.out.bv.2 3 _ rfl
  have q4 := HT9.out.bv.2 4 _ rfl
  have x0 := hr9.cell (show 0 < 5 by decide)
  have x1 := hr9.cell (show 1 < 5 by decide)
  have x2 := hr9.cell (show 2 < 5 by decide)
  have x3 := hr9.cell (show 3 < 5 by decide)
  have x4 := hr9.cell (show 4 < 5 by decide)
  simp only [hdAt, Hd.cells, List.getD_cons_succ, List.getD_cons_zero] at x0 x1 x2 x3 x4
  clear hr9 hr9'
  go_wp2_with fail
  refine KC.out.mono ?_
  rintro e w10 ⟨b10, h10, er, rfl, hb10, hl10, ho10⟩
  have HT10 := Lib.hid (HT9.out.go hb10 (by omega))
  have HL10 := Lib.hid hl10
  have HO10 := Lib.hid ho10
  clear hb10 hl10 ho10 KC x0 x1 x2 x3 x4 q0 q1 q2 q3 q4
  have z0 := HT10.out.res.cell (show 0 < 5 by decide)
  have z1 := HT10.out.res.cell (show 1 < 5 by decide)
  have z2 := HT10.out.res.cell (show 2 < 5 by decide)
  have z3 := HT10.out.res.cell (show 3 < 5 by decide)
  have z4 := HT10.out.res.cell (show 4 < 5 by decide)
  have g0 := HT10.out.res.frozen 0
  have g1 := HT10.out.res.frozen 1
  have g2 := HT10.out.res.frozen 2
  have g3 := HT10.out.res.frozen 3
  have g4 := HT10.out.res.frozen 4
  simp only [hdAt, Hd.cells, List.getD_cons_succ, List.getD_cons_zero] at z0 z1 z2 z3 z4
  go_wp2_with fail
  refine bodyPost_ret (v := .tuple #[.agg #[.int .i64 h10.k, .int .i64 h10.n, .string h10.s, .slice h10.A h10.la h10.lc, .slice h10.F h10.lf h10.fc], .int .i64 er]) (by simp [results, Try.results54, go_sem, z0, z1, z2, z3, z4]; try rfl) rfl ?_
  refine ⟨b10, h10, er, rfl, res_below HT10.out.bel (by omega), ?_, ?_⟩
  · exact Lies.keep (fun q hq _ => World.cell?_of_block (res_set (w := w) _ (fun e => by rw [e] at hq; omega))) (fun _ _ _ => trivial) _ _ HL10.out
  · rw [HBE.out] at HO10
    rcases HO10.out with ⟨h1, h2, h3⟩ | ⟨h1, h2, h3⟩
    · exact .inr (.inr (.inr (.inr (.inl ⟨_, HYES.out.1, HYES.out.2, rfl, HNT.out, h1, h2, h3⟩))))
    · exact .inr (.inr (.inr (.inr (.inr ⟨_, HYES.out.1, HYES.out.2, rfl, HNT.out, h1, h2, h3⟩))))
end Go.Proofs.Ytmdlcalnncncjaa

/- The reference's may, changed and Puts. -/
set_option linter.unusedVariables false
set_option linter.unusedSimpArgs false
namespace Go.Proofs.Ytmdlcalnncncjaa
open Go.RowKit
/-- The reference's loop. -/
structure LoopFiS (S : Nat → Prop) (w : World) (a : Va) (p : List St) (i : Nat) (a' : Va) (h' : Hd) (wr : World) : Prop where
  bel : Below w.heap.size w wr
  size : w.heap.size + 2 ≤ wr.heap.size
  box : wr.rowIs w.heap.size 25 5 (hdAt h')
  res : wr.rowIs (w.heap.size + 1) 25 5 zeroRes
  lies : Lies wr S a' h'
  go : goV a p = goV a' (p.drop i)
  cnt : a'.cnt ≤ 1000
theorem LoopFiS.below {S : Nat → Prop} {w wr w' : World} {a : Va} {p : List St} {i : Nat} {a' : Va} {h' : Hd} (H : LoopFiS S w a p i a' h' wr) (hb : Below wr.heap.size wr w') : LoopFiS S w a p i a' h' w' :=
  ⟨H.bel.trans (hb.mono H.bel.size), Nat.le_trans H.size hb.size, rowIs_below H.box hb (by have := H.size; omega), rowIs_below H.res hb (by have := H.size; omega), H.lies.below hb (Nat.le_refl _), H.go, H.cnt⟩
theorem LoopFiS.step {S : Nat → Prop} {w wr : World} {a : Va} {p : List St} {i : Nat} {a' x : Va} {h' u : Hd} {s : St} (H : LoopFiS S w a p i a' h' wr) (hs : p[i]? = some s) (hx : subV a' s = some x) (hu : Lies wr S x u) (hSb : ∀ b, S b → b < w.heap.size) :
    LoopFiS S w a p (i + 1) x u (((((wr.setCell ⟨w.heap.size, 0, none⟩ (.int .i64 u.k)).setCell ⟨w.heap.size, 1, none⟩ (.int .i64 u.n)).setCell ⟨w.heap.size, 2, none⟩ (.string u.s)).setCell ⟨w.heap.size, 3, none⟩ (.slice u.A u.la u.lc)).setCell ⟨w.heap.size, 4, none⟩ (.slice u.F u.lf u.fc)) := by
  refine ⟨res_below H.bel (Nat.le_refl _), by simp; exact H.size, ?_, H.res.of_block (res_set (w := w) _ (by omega)), ?_, ?_, ?_⟩
  · refine (((((H.box.set 0 _).set 1 _).set 2 _).set 3 _).set 4 _).congr (fun j hj => ?_)
    match j, hj with
    | 0, _ => rfl
    | 1, _ => rfl
    | 2, _ => rfl
    | 3, _ => rfl
    | 4, _ => rfl
  · exact Lies.keep (fun q hq _ => World.cell?_of_block (res_set (w := w) _ (fun e => by have := hSb _ hq; omega))) (fun _ h _ => h) _ _ hu
  · have hd : p.drop i = s :: p.drop (i + 1) := by
      have hl := (List.getElem?_eq_some_iff.1 hs).1
      rw [List.drop_eq_getElem_cons hl]
      congr 1
      exact (List.getElem?_eq_some_iff.1 hs).2
    rw [H.go, hd]
    simp only [goV]
    rw [hx]
  · obtain ⟨k, n, t, l, ks, f⟩ := a'
    exact Nat.le_trans (cnt_sub (subV_mem hx)) H.cnt
theorem LoopFiS.stop {S : Nat → Prop} {w wr : World} {a : Va} {p : List St} {i : Nat} {a' : Va} {h' : Hd} {s : St} (H : LoopFiS S w a p i a' h' wr) (hs : p[i]? = some s) (hx : subV a' s = none) : goV a p = none := by
  have hd : p.drop i = s :: p.drop (i + 1) := by
    have hl := (List.getElem?_eq_some_iff.1 hs).1
    rw [List.drop_eq_getElem_cons hl]
    congr 1
    exact (List.getElem?_eq_some_iff.1 hs).2
  rw [H.go, hd]
  simp only [goV]
  rw [hx]
set_option maxHeartbeats 4000000 in
set_option maxRecDepth 100000 in
theorem find_refS (S : Nat → Prop) (a : Va) (h : Hd) (w : World) (hSb : ∀ b, S b → b < w.heap.size) (A : Option Addr) (m c : Nat) (p : List St) (H : Lies w S a h) (hcn : a.cnt ≤ 1000) (hA : PathAt w A p) (hm : m = p.length) (hp : m ≤ 1000) (hR : ∀ s ∈ p, StR s) :
    Calls Try.prog 50 #[h.val, .slice A m c] w fun e w' => FolR S a p w e w' := by
  have HS := Lib.hid H
  have HSb := Lib.hid hSb
  have HA := Lib.hid hA
  have HM := Lib.hid hm
  have HSR := Lib.hid hR
  have hb2 := two_allocs w (Obj.cells #[.int .i64 h.k, .int .i64 h.n, .string h.s, .slice h.A h.la h.lc, .slice h.F h.lf h.fc] 25) (Obj.cells #[.int .i64 0, .int .i64 0, .string { data := #[] }, .slice none 0 0, .slice none 0 0] 25)
  have hbox : ((w.alloc (Obj.cells #[.int .i64 h.k, .int .i64 h.n, .string h.s, .slice h.A h.la h.lc, .slice h.F h.lf h.fc] 25)).alloc (Obj.cells #[.int .i64 0, .int .i64 0, .string { data := #[] }, .slice none 0 0, .slice none 0 0] 25)).rowIs w.heap.size 25 5 (hdAt h) := by
    refine hdAt_row ?_
    rw [Below.heap_alloc _ _ _ (by simp)]
    exact heap_alloc_new _ _
  have hres : ((w.alloc (Obj.cells #[.int .i64 h.k, .int .i64 h.n, .string h.s, .slice h.A h.la h.lc, .slice h.F h.lf h.fc] 25)).alloc (Obj.cells #[.int .i64 0, .int .i64 0, .string { data := #[] }, .slice none 0 0, .slice none 0 0] 25)).rowIs (w.heap.size + 1) 25 5 zeroRes := by
    refine hdAt_row (h := zeroHd) ?_
    have h9 := heap_alloc_new (w.alloc (Obj.cells #[.int .i64 h.k, .int .i64 h.n, .string h.s, .slice h.A h.la h.lc, .slice h.F h.lf h.fc] 25)) (Obj.cells #[.int .i64 0, .int .i64 0, .string { data := #[] }, .slice none 0 0, .slice none 0 0] 25)
    rwa [World.size_alloc] at h9
  have hL0 : LoopFiS S w a p 0 a h ((w.alloc (Obj.cells #[.int .i64 h.k, .int .i64 h.n, .string h.s, .slice h.A h.la h.lc, .slice h.F h.lf h.fc] 25)).alloc (Obj.cells #[.int .i64 0, .int .i64 0, .string { data := #[] }, .slice none 0 0, .slice none 0 0] 25)) := ⟨hb2, by simp, hbox, hres, HS.out.below hb2 (Nat.le_refl _), rfl, hcn⟩
  clear H hcn hA hm hR hb2 hbox hres HS hSb
  unfold Hd.val at *
  go_enter Try.func50, Try.ntmps50
  go_wp2_with fail
  go_loopw [6] (fun iv wr => ∃ (i : Nat) (a' : Va) (h' : Hd), iv = .int .i64 i ∧ i ≤ m ∧ LoopFiS S w a p i a' h' wr) (fun iv _ => m - (intOf iv).toNat)
  case atStart => exact ⟨0, a, h, rfl, Nat.zero_le _, hL0⟩
  case round =>
    clear hL0
    obtain ⟨i, a', h', rfl, hi, hL⟩ := hrel
    have HL := Lib.hid hL
    have hszr := hL.size
    have b0 := hL.box.cell (show 0 < 5 by decide)
    have b1 := hL.box.cell (show 1 < 5 by decide)
    have b2 := hL.box.cell (show 2 < 5 by decide)
    have b3 := hL.box.cell (show 3 < 5 by decide)
    have b4 := hL.box.cell (show 4 < 5 by decide)
    simp only [hdAt, Hd.cells, List.getD_cons_succ, List.getD_cons_zero] at b0 b1 b2 b3 b4
    clear hL
    by_cases hlt : i < m
    · obtain ⟨s, hs⟩ : ∃ s, p[i]? = some s := ⟨p[i]'(by have := HM.out; omega), List.getElem?_eq_getElem (by have := HM.out; omega)⟩
      obtain ⟨ad, e, hbl, hcell, hok⟩ := (HA.out.below HL.out.bel (Nat.le_refl _)) i s hs
      subst e
      obtain ⟨q0, q1, q2⟩ := hcell
      have HPS := Lib.hid hs
      have HST := Lib.hid (HSR.out s (List.mem_of_getElem? hs))
      have hNr : w.heap.size < wr.heap.size := by omega
      have Q0 : ∀ x : BlwBy wr, x.now.cell? (ad.add (i * 3)) = some (.string s.k) := fun x => x.cellA hbl q0
      have Q1 : ∀ x : BlwBy wr, x.now.cell? ⟨(ad.add (i * 3)).block, (ad.add (i * 3)).off + 1, none⟩ = some (.int .i64 s.a) := fun x => x.cellA (a := ⟨(ad.add (i * 3)).block, (ad.add (i * 3)).off + 1, none⟩) hbl q1
      have Q2 : ∀ x : BlwBy wr, x.now.cell? ⟨(ad.add (i * 3)).block, (ad.add (i * 3)).off + 2, none⟩ = some (.bool s.i) := fun x => x.cellA (a := ⟨(ad.add (i * 3)).block, (ad.add (i * 3)).off + 2, none⟩) hbl q2
      have B0 : ∀ x : BlwBy wr, x.now.cell? ⟨w.heap.size, 0, none⟩ = some (.int .i64 h'.k) := fun x => x.cell hNr b0
      have B1 : ∀ x : BlwBy wr, x.now.cell? ⟨w.heap.size, 1, none⟩ = some (.int .i64 h'.n) := fun x => x.cell hNr b1
      have B2 : ∀ x : BlwBy wr, x.now.cell? ⟨w.heap.size, 2, none⟩ = some (.string h'.s) := fun x => x.cell hNr b2
      have B3 : ∀ x : BlwBy wr, x.now.cell? ⟨w.heap.size, 3, none⟩ = some (.slice h'.A h'.la h'.lc) := fun x => x.cell hNr b3
      have B4 : ∀ x : BlwBy wr, x.now.cell? ⟨w.heap.size, 4, none⟩ = some (.slice h'.F h'.lf h'.fc) := fun x => x.cell hNr b4
      have KM : Hid (∀ x : BlwBy wr, Calls Try.prog 87 #[.agg #[.int .i64 h'.k, .int .i64 h'.n, .string h'.s, .slice h'.A h'.la h'.lc, .slice h'.F h'.lf h'.fc], .agg #[.string s.k, .int .i64 s.a, .bool s.i]] x.now fun e w'' => e = .returned (.int .i64 (mI (subI a' s))) ∧ ∃ q : BlwBy wr, w'' = q.now) := Lib.hid (fun x => Calls.below_of (next_ref a' _ h' x.now s (HL.out.lies.below x.bel (Nat.le_refl _)) HST.out HL.out.cnt))
      clear hs hok
      go_wp2_with fail
      refine wp_quiet_below (by kernel_rfl) (by kernel_rfl) ?_
      repeat (quiet_step (first | (go_at_call 87; exact KM.out _)))
      refine wpQuiet_nil ?_
      intro w9 hw'
      have hb9 : Below wr.heap.size wr w9 := by obtain ⟨⟨wx, hbx⟩, hw''⟩ := hw'; rw [hw'']; exact hbx
      clear hw'
      have HL9 := Lib.hid (HL.out.below hb9)
      have hs9 := hb9.size
      have r2 := (hb9.cell (p := ⟨(ad.add (i * 3)).block, (ad.add (i * 3)).off + 2, none⟩) hbl).trans q2
      clear Q0 Q1 Q2 B0 B1 B2 B3 B4 KM b0 b1 b2 b3 b4 q0 q1 q2 hb9 HL
      cases hsi : subI a' s with
      | none =>
        have HNO : Hid (goV a p = none) := Lib.hid (HL9.out.stop HPS.out (by obtain ⟨k, n, t, l, ks, f⟩ := a'; simp only [subV]; rw [hsi]))
        have z0 := HL9.out.res.cell (show 0 < 5 by decide)
        have z1 := HL9.out.res.cell (show 1 < 5 by decide)
        have z2 := HL9.out.res.cell (show 2 < 5 by decide)
        have z3 := HL9.out.res.cell (show 3 < 5 by decide)
        have z4 := HL9.out.res.cell (show 4 < 5 by decide)
        have g0 := HL9.out.res.frozen 0
        have g1 := HL9.out.res.frozen 1
        have g2 := HL9.out.res.frozen 2
        have g3 := HL9.out.res.frozen 3
        have g4 := HL9.out.res.frozen 4
        simp only [hdAt, Hd.cells, List.getD_cons_succ, List.getD_cons_zero] at z0 z1 z2 z3 z4
        simp only [mI]
        clear hsi
        go_wp2_with fail
        refine bodyPost_ret (v := .tuple #[.agg #[.int .i64 0, .int .i64 0, .string ⟨#[]⟩, .slice none 0 0, .slice none 0 0], .bool false]) (by simp [results, Try.results50, go_sem, z0, z1, z2, z3, z4]; try rfl) rfl ?_
        exact FolR.no HNO.out (res_below HL9.out.bel (Nat.le_succ _))
      | some j =>
        obtain ⟨k, n, t, l, ks, f⟩ := a'
        have hop := HL9.out.lies.op
        have hLs := HL9.out.lies
        simp only [Lies] at hLs
        obtain ⟨⟨e1, e2, e3, e4, e5, e6⟩, -, -⟩ := hLs
        have HLT := Lib.hid (subI_lt e6 HST.out hsi)
        have c3 := HL9.out.box.cell (show 3 < 5 by decide)
        have c4 := HL9.out.box.cell (show 4 < 5 by decide)
        have c0 := HL9.out.box.cell (show 0 < 5 by decide)
        have c1 := HL9.out.box.cell (show 1 < 5 by decide)
        have c2 := HL9.out.box.cell (show 2 < 5 by decide)
        have f0 := HL9.out.box.frozen 0
        have f1 := HL9.out.box.frozen 1
        have f2 := HL9.out.box.frozen 2
        have f3 := HL9.out.box.frozen 3
        have f4 := HL9.out.box.frozen 4
        simp only [hdAt, Hd.cells, List.getD_cons_succ, List.getD_cons_zero] at c0 c1 c2 c3 c4
        rw [e4] at c3
        rw [e5] at c4
        have hll : l.length ≤ 1000 := by have h1 := len_le_cntL l; have h2 := HL9.out.cnt; simp only [Va.cnt] at h2; omega
        have hfl : f.length ≤ 1000 := by have h1 := len_le_cntL f; have h2 := HL9.out.cnt; simp only [Va.cnt] at h2; omega
        clear e1 e2 e3 e4 e5 e6
        simp only [mI]
        have hcj : (0 : Int) ≤ (j : Int) := by omega
        cases hst : s.i
        · obtain ⟨hil, h5⟩ := HLT.out.2 hst
          obtain ⟨x, hx⟩ : ∃ x, f[j]? = some x := ⟨f[j], List.getElem?_eq_getElem hil⟩
          obtain ⟨ad2, u, key, hA2, _, hab, _, _, hLu, hat2⟩ := hop.K j x hx
          rw [hA2] at c4
          obtain ⟨kk, k0, k1, k2, k3, k4⟩ := hat2
          have HSV : Hid (subV (.mk k n t l ks f) s = some x) := Lib.hid (by simp only [subV]; rw [hsi]; simp only; rw [if_neg (by rw [hst]; decide), hx])
          have HLu := Lib.hid hLu
          rw [hst] at r2
          have hcjl : (j : Int) < (f.length : Int) := by omega
          clear hop hx hLu hsi hst HLT hA2
          go_wp2_with fail
          exact ⟨⟨i + 1, x, u, by go_num, by omega, HL9.out.step HPS.out HSV.out HLu.out HSb.out⟩, by simp [intOf]; omega⟩
        · obtain ⟨hil, h5⟩ := HLT.out.1 hst
          obtain ⟨x, hx⟩ : ∃ x, l[j]? = some x := ⟨l[j], List.getElem?_eq_getElem hil⟩
          obtain ⟨ad2, u, hA2, _, hab, hLu, hat2⟩ := hop.L j x hx
          rw [hA2] at c3
          obtain ⟨k0, k1, k2, k3, k4⟩ := hat2
          have HSV : Hid (subV (.mk k n t l ks f) s = some x) := Lib.hid (by simp only [subV]; rw [hsi]; simp only; rw [if_pos hst, hx])
          have HLu := Lib.hid hLu
          rw [hst] at r2
          have hcjl : (j : Int) < (l.length : Int) := by omega
          clear hop hx hLu hsi hst HLT hA2
          go_wp2_with fail
          exact ⟨⟨i + 1, x, u, by go_num, by omega, HL9.out.step HPS.out HSV.out HLu.out HSb.out⟩, by simp [intOf]; omega⟩
    · obtain rfl : i = m := by omega
      have HGO : Hid (goV a p = some a') := Lib.hid (by rw [HL.out.go, List.drop_of_length_le (by have := HM.out; omega)]; rfl)
      have z0 := HL.out.res.cell (show 0 < 5 by decide)
      have z1 := HL.out.res.cell (show 1 < 5 by decide)
      have z2 := HL.out.res.cell (show 2 < 5 by decide)
      have z3 := HL.out.res.cell (show 3 < 5 by decide)
      have z4 := HL.out.res.cell (show 4 < 5 by decide)
      have g0 := HL.out.res.frozen 0
      have g1 := HL.out.res.frozen 1
      have g2 := HL.out.res.frozen 2
      have g3 := HL.out.res.frozen 3
      have g4 := HL.out.res.frozen 4
      simp only [hdAt, Hd.cells, List.getD_cons_succ, List.getD_cons_zero] at z0 z1 z2 z3 z4
      go_wp2_with fail
      refine bodyPost_ret (v := .tuple #[.agg #[.int .i64 h'.k, .int .i64 h'.n, .string h'.s, .slice h'.A h'.la h'.lc, .slice h'.F h'.lf h'.fc], .bool true]) (by simp [results, Try.results50, go_sem, z0, z1, z2, z3, z4]; try rfl) rfl ?_
      refine ⟨a', h', true, rfl, res_below HL.out.bel (Nat.le_succ _), ?_, .inl ⟨rfl, HGO.out⟩⟩
      exact Lies.keep (fun q hq _ => World.cell?_of_block (res_set (w := w) _ (fun e => by have := HSb.out _ hq; omega))) (fun _ h _ => h) _ _ HL.out.lies
/-- What may answers. -/
def MayR (S : Nat → Prop) (a : Va) (p : List St) (w : World) (e : Ending) (w' : World) : Prop := ∃ (b : Va) (h' : Hd) (er : Int), e = .returned (.tuple #[.agg #[.int .i64 h'.k, .int .i64 h'.n, .string h'.s, .slice h'.A h'.la h'.lc, .slice h'.F h'.lf h'.fc], .int .i64 er]) ∧ Below w.heap.size w w' ∧ Lies w' S b h' ∧
  ((¬ (a.R 12 ∧ PathR p) ∧ er = 1 ∧ b = zeroVa) ∨ (a.R 12 ∧ PathR p ∧ goV a p = none ∧ er = 8 ∧ b = zeroVa) ∨ (a.R 12 ∧ PathR p ∧ goV a p = some b ∧ er = 0))
theorem MayR.no {S : Nat → Prop} {a : Va} {p : List St} {w w' : World} (h : ¬ (a.R 12 ∧ PathR p)) (hb : Below w.heap.size w w') : MayR S a p w (.returned (.tuple #[.agg #[.int .i64 0, .int .i64 0, .string ⟨#[]⟩, .slice none 0 0, .slice none 0 0], .int .i64 1])) w' :=
  ⟨zeroVa, zeroHd, 1, rfl, hb, lies_zero _ _, .inl ⟨h, rfl, rfl⟩⟩
set_option maxHeartbeats 4000000 in
set_option maxRecDepth 100000 in
theorem may_ref (S : Nat → Prop) (a : Va) (h : Hd) (w : World) (A : Option Addr) (m c : Nat) (p : List St) (H : Lies w S a h) (hsh : a.Sh) (hcn : a.cnt ≤ 1000) (hA : PathAt w A p) (hm : m = p.length) (hp : m ≤ 1000) (hkk : ∀ s ∈ p, s.k.size ≤ 4294967296) :
    Calls Try.prog 89 #[h.val, .slice A m c] w fun e w' => MayR (fun b => b < w.heap.size) a p w e w' := by
  have HS := Lib.hid (show Lies w (fun b => b < w.heap.size) a h from Lies.keep (fun _ _ _ => rfl) (fun b _ hb => hb) _ _ H)
  have HSH := Lib.hid hsh
  have HCN := Lib.hid hcn
  have HA := Lib.hid hA
  have HM := Lib.hid hm
  have HKK := Lib.hid hkk
  unfold Hd.val at *
  have hb2 := two_allocs w (Obj.cells #[.int .i64 h.k, .int .i64 h.n, .string h.s, .slice h.A h.la h.lc, .slice h.F h.lf h.fc] 25) (Obj.cells #[.int .i64 0, .int .i64 0, .string { data := #[] }, .slice none 0 0, .slice none 0 0] 25)
  have K1 := Lib.hid (rightref a S h _ (H.below hb2 (Nat.le_refl _)) hsh)
  unfold Hd.val at K1
  clear H hsh hcn hA hb2 hm hkk
  go_enter Try.func89, Try.ntmps89
  go_wp2_with fail
  refine K1.out.mono ?_
  rintro e w1 ⟨r, rfl, hr, hb1⟩
  obtain ⟨hb2, hbx, hres, hsz⟩ := two_blocks hb1
  have HB := Lib.hid hb2
  have HR := Lib.hid hr
  have HBX := Lib.hid hbx
  have HRES := Lib.hid hres
  clear hb1 hb2 hr hbx hres K1
  cases r
  · have HNO : Hid (¬ (a.R 12 ∧ PathR p)) := Lib.hid (fun h => absurd (HR.out.2 h.1) (by decide))
    have z0 := HRES.out.cell (show 0 < 5 by decide)
    have z1 := HRES.out.cell (show 1 < 5 by decide)
    have z2 := HRES.out.cell (show 2 < 5 by decide)
    have z3 := HRES.out.cell (show 3 < 5 by decide)
    have z4 := HRES.out.cell (show 4 < 5 by decide)
    have g0 := HRES.out.frozen 0
    have g1 := HRES.out.frozen 1
    have g2 := HRES.out.frozen 2
    have g3 := HRES.out.frozen 3
    have g4 := HRES.out.frozen 4
    simp only [hdAt, Hd.cells, List.getD_cons_succ, List.getD_cons_zero] at z0 z1 z2 z3 z4
    go_wp2_with fail
    refine bodyPost_ret (v := .tuple #[.agg #[.int .i64 0, .int .i64 0, .string ⟨#[]⟩, .slice none 0 0, .slice none 0 0], .int .i64 1]) (by simp [results, Try.results89, go_sem, z0, z1, z2, z3, z4]; try rfl) rfl ?_
    exact MayR.no HNO.out (res_below HB.out (Nat.le_succ _))
  have HY := Lib.hid (HR.out.1 rfl)
  clear HR
  have KP := Lib.hid (path_right_ref p A m c w1 HM.out (by have := HM.out; unfold maxLen; omega) (HA.out.below HB.out (Nat.le_refl _)) HKK.out)
  go_wp2_with fail
  refine KP.out.mono ?_
  rintro e w2 ⟨r, rfl, hr, hb2⟩
  have HR := Lib.hid hr
  have HB2 := Lib.hid (HB.out.trans (hb2.mono HB.out.size))
  have hsz2 : w.heap.size + 2 ≤ w2.heap.size := by have := hb2.size; omega
  have HBX2 := Lib.hid (HBX.out.go hb2 HBX.out.1)
  have HRES2 := Lib.hid (rowIs_below HRES.out hb2 (by omega))
  clear hb2 hr KP HBX HRES HB
  cases r
  · have HNO : Hid (¬ (a.R 12 ∧ PathR p)) := Lib.hid (fun h => absurd (HR.out.2 h.2) (by decide))
    have z0 := HRES2.out.cell (show 0 < 5 by decide)
    have z1 := HRES2.out.cell (show 1 < 5 by decide)
    have z2 := HRES2.out.cell (show 2 < 5 by decide)
    have z3 := HRES2.out.cell (show 3 < 5 by decide)
    have z4 := HRES2.out.cell (show 4 < 5 by decide)
    have g0 := HRES2.out.frozen 0
    have g1 := HRES2.out.frozen 1
    have g2 := HRES2.out.frozen 2
    have g3 := HRES2.out.frozen 3
    have g4 := HRES2.out.frozen 4
    simp only [hdAt, Hd.cells, List.getD_cons_succ, List.getD_cons_zero] at z0 z1 z2 z3 z4
    go_wp2_with fail
    refine bodyPost_ret (v := .tuple #[.agg #[.int .i64 0, .int .i64 0, .string ⟨#[]⟩, .slice none 0 0, .slice none 0 0], .int .i64 1]) (by simp [results, Try.results89, go_sem, z0, z1, z2, z3, z4]; try rfl) rfl ?_
    exact MayR.no HNO.out (res_below HB2.out (Nat.le_succ _))
  have HYP := Lib.hid (HR.out.1 rfl)
  clear HR
  have b0 := HBX2.out.2 0 _ rfl
  have b1 := HBX2.out.2 1 _ rfl
  have b2 := HBX2.out.2 2 _ rfl
  have b3 := HBX2.out.2 3 _ rfl
  have b4 := HBX2.out.2 4 _ rfl
  have KF := Lib.hid (find_refS (fun b => b < w.heap.size) a h w2 (fun b hb => by omega) A m c p (HS.out.below HB2.out (Nat.le_refl _)) HCN.out (HA.out.below HB2.out (Nat.le_refl _)) HM.out hp HYP.out.2)
  unfold Hd.val at KF
  go_wp2_with fail
  refine KF.out.mono ?_
  rintro e w3 ⟨b, h', ok, rfl, hb3, hl3, ho3⟩
  have HB3 := Lib.hid (HB2.out.trans (hb3.mono HB2.out.size))
  have hsz3 := hb3.size
  have HRES3 := Lib.hid (rowIs_below HRES2.out hb3 (by omega))
  have HO3 := Lib.hid ho3
  clear hb3 ho3 KF
  go_upto_region 4 with fail
  have hb4 := one_alloc w3 (Obj.cells #[.int .i64 h'.k, .int .i64 h'.n, .string h'.s, .slice h'.A h'.la h'.lc, .slice h'.F h'.lf h'.fc] 25)
  have hcx := Bx.start w3 h' 25
  generalize w3.alloc (Obj.cells #[.int .i64 h'.k, .int .i64 h'.n, .string h'.s, .slice h'.A h'.la h'.lc, .slice h'.F h'.lf h'.fc] 25) = w4 at hb4 hcx ⊢
  have HB4 := Lib.hid (HB3.out.trans (hb4.mono HB3.out.size))
  have HRES4 := Lib.hid (rowIs_below HRES3.out hb4 (by omega))
  have HL4 := Lib.hid (hl3.below hb4 (Nat.le_refl _))
  have x0 := hcx.2 0 _ rfl
  have x1 := hcx.2 1 _ rfl
  have x2 := hcx.2 2 _ rfl
  have x3 := hcx.2 3 _ rfl
  have x4 := hcx.2 4 _ rfl
  have hxl := hcx.1
  have hs4 := hb4.size
  clear hb4 hcx HB3 HRES3 hl3
  have z0 := HRES4.out.cell (show 0 < 5 by decide)
  have z1 := HRES4.out.cell (show 1 < 5 by decide)
  have z2 := HRES4.out.cell (show 2 < 5 by decide)
  have z3 := HRES4.out.cell (show 3 < 5 by decide)
  have z4 := HRES4.out.cell (show 4 < 5 by decide)
  have g0 := HRES4.out.frozen 0
  have g1 := HRES4.out.frozen 1
  have g2 := HRES4.out.frozen 2
  have g3 := HRES4.out.frozen 3
  have g4 := HRES4.out.frozen 4
  simp only [hdAt, Hd.cells, List.getD_cons_succ, List.getD_cons_zero] at z0 z1 z2 z3 z4
  cases ok
  · have HGN : Hid (goV a p = none) := Lib.hid (by rcases HO3.out with ⟨h1, _⟩ | ⟨_, h2, _⟩; cases h1; exact h2)
    go_wp2_with fail
    refine bodyPost_ret (v := .tuple #[.agg #[.int .i64 0, .int .i64 0, .string ⟨#[]⟩, .slice none 0 0, .slice none 0 0], .int .i64 8]) (by simp [results, Try.results89, go_sem, z0, z1, z2, z3, z4]; try rfl) rfl ?_
    exact ⟨zeroVa, zeroHd, 8, rfl, res_below HB4.out (Nat.le_succ _), lies_zero _ _, .inr (.inl ⟨HY.out, HYP.out, HGN.out, rfl, rfl⟩)⟩
  · have HGS : Hid (goV a p = some b) := Lib.hid (by rcases HO3.out with ⟨_, h2⟩ | ⟨h1, _⟩; exact h2; cases h1)
    go_wp2_with fail
    refine bodyPost_ret (v := .tuple #[.agg #[.int .i64 h'.k, .int .i64 h'.n, .string h'.s, .slice h'.A h'.la h'.lc, .slice h'.F h'.lf h'.fc], .int .i64 0]) (by simp [results, Try.results89, go_sem, z0, z1, z2, z3, z4]; try rfl) rfl ?_
    refine ⟨b, h', 0, rfl, res_below HB4.out (Nat.le_succ _), ?_, .inr (.inr ⟨HY.out, HYP.out, HGS.out, rfl⟩)⟩
    exact Lies.keep (fun q hq _ => World.cell?_of_block (res_set (w := w) _ (fun e => by omega))) (fun _ h _ => h) _ _ HL4.out
end Go.Proofs.Ytmdlcalnncncjaa

/- The reference's changed and Puts. -/
set_option linter.unusedVariables false
set_option linter.unusedSimpArgs false
namespace Go.Proofs.Ytmdlcalnncncjaa
open Go.RowKit
/-- What the reference's changed answers of the value b. -/
def ChgS (S : Nat → Prop) (b : Va) (w : World) (e : Ending) (w' : World) : Prop := ∃ (b2 : Va) (h' : Hd) (er : Int), e = .returned (.tuple #[.agg #[.int .i64 h'.k, .int .i64 h'.n, .string h'.s, .slice h'.A h'.la h'.lc, .slice h'.F h'.lf h'.fc], .int .i64 er]) ∧ Below w.heap.size w w' ∧ Lies w' (fun x => S x ∨ w.heap.size ≤ x) b2 h' ∧
  ((b.R 12 ∧ er = 0 ∧ b2 = b) ∨ (¬ b.R 12 ∧ er = 5 ∧ b2 = zeroVa))
set_option maxHeartbeats 4000000 in
set_option maxRecDepth 100000 in
theorem changed_ref (S : Nat → Prop) (x : Va) (hx : Hd) (p : List St) (a : Va) (h : Hd) (w : World) (A : Option Addr) (m c d : Nat) (hSb : ∀ b, S b → b < w.heap.size) (H : Lies w S a h) (HX : Lies w S x hx) (hA : PathAt w A p) (hR : ∀ s ∈ p, StR s) (hm : m = p.length) (hc : m ≤ c) (hp : m ≤ 1000) (hsh : a.Sh) (hcn : a.cnt ≤ 400) (hxs : x.Sh) (had : a.R d) (hgo : (goV a p).isSome = true) :
    Calls Try.prog 90 #[h.val, .slice A m c, hx.val] w fun e w' => ChgS S (putV a p x) w e w' := by
  have htb := TB.start w h hx
  have hbs := htb.bel.size
  have K1 := Lib.hid (put_ref S x hx p a h _ A m c d (fun b hb => by have := hSb b hb; omega) (H.below htb.bel (Nat.le_refl _)) (HX.below htb.bel (Nat.le_refl _)) (hA.below htb.bel (Nat.le_refl _)) hR hm hc hp (by omega) had hgo)
  have HBO := Lib.hid (putV_both hxs p a hsh)
  have HSb := Lib.hid hSb
  unfold Hd.val at *
  generalize putV a p x = b at *
  clear H HX hA hR hm hsh hxs hgo htb hbs hSb had
  go_enter Try.func90, Try.ntmps90
  go_wp2_with fail
  refine K1.out.mono ?_
  rintro e w1 ⟨h', rfl, hl1, hb1⟩
  have HT1 := Lib.hid (three_blocks hb1)
  have HL1 := Lib.hid (show Lies w1 (fun b => S b ∨ w.heap.size + 3 ≤ b) b h' from Lies.keep (fun _ _ _ => rfl) (fun b hb _ => by simpa using hb) _ _ hl1)
  clear hl1 hb1 K1
  go_upto_region 1 with fail
  have hb4 := one_alloc w1 (Obj.cells #[.int .i64 h'.k, .int .i64 h'.n, .string h'.s, .slice h'.A h'.la h'.lc, .slice h'.F h'.lf h'.fc] 25)
  have hcx := Bx.start w1 h' 25
  generalize w1.alloc (Obj.cells #[.int .i64 h'.k, .int .i64 h'.n, .string h'.s, .slice h'.A h'.la h'.lc, .slice h'.F h'.lf h'.fc] 25) = w4 at hb4 hcx ⊢
  have HT4 := Lib.hid (HT1.out.go hb4 HT1.out.sz)
  have HL4 := Lib.hid (HL1.out.below hb4 (Nat.le_refl _))
  have HC4 := Lib.hid hcx
  have x0 := hcx.2 0 _ rfl
  have x1 := hcx.2 1 _ rfl
  have x2 := hcx.2 2 _ rfl
  have x3 := hcx.2 3 _ rfl
  have x4 := hcx.2 4 _ rfl
  clear hb4 hcx HT1 HL1
  have K2 := Lib.hid (rightref b _ h' w4 HL4.out HBO.out.1)
  unfold Hd.val at K2
  go_wp2_with fail
  refine K2.out.mono ?_
  rintro e w5 ⟨r, rfl, hr, hb5⟩
  have HR := Lib.hid hr
  have HT5 := Lib.hid (HT4.out.go hb5 HT4.out.sz)
  have HC5 := Lib.hid (HC4.out.go hb5 HC4.out.1)
  have HL5 := Lib.hid (HL4.out.below hb5 (Nat.le_refl _))
  have hs5 := HT5.out.sz
  clear hr hb5 K2 x0 x1 x2 x3 x4 HT4 HC4 HL4
  cases r
  · have z0 := HT5.out.res.cell (show 0 < 5 by decide)
    have z1 := HT5.out.res.cell (show 1 < 5 by decide)
    have z2 := HT5.out.res.cell (show 2 < 5 by decide)
    have z3 := HT5.out.res.cell (show 3 < 5 by decide)
    have z4 := HT5.out.res.cell (show 4 < 5 by decide)
    have g0 := HT5.out.res.frozen 0
    have g1 := HT5.out.res.frozen 1
    have g2 := HT5.out.res.frozen 2
    have g3 := HT5.out.res.frozen 3
    have g4 := HT5.out.res.frozen 4
    simp only [hdAt, Hd.cells, List.getD_cons_succ, List.getD_cons_zero] at z0 z1 z2 z3 z4
    go_wp2_with fail
    refine bodyPost_ret (v := .tuple #[.agg #[.int .i64 0, .int .i64 0, .string ByteArray.empty, .slice none 0 0, .slice none 0 0], .int .i64 5]) (by simp [results, Try.results90, go_sem, z0, z1, z2, z3, z4]; try rfl) rfl ?_
    exact ⟨zeroVa, zeroHd, 5, rfl, res_below HT5.out.bel (by omega), lies_zero _ _, .inr ⟨fun h => absurd (HR.out.2 h) (by decide), rfl, rfl⟩⟩
  have HY := Lib.hid (HR.out.1 rfl)
  have x0 := HC5.out.2 0 _ rfl
  have x1 := HC5.out.2 1 _ rfl
  have x2 := HC5.out.2 2 _ rfl
  have x3 := HC5.out.2 3 _ rfl
  have x4 := HC5.out.2 4 _ rfl
  have z0 := HT5.out.res.cell (show 0 < 5 by decide)
  have z1 := HT5.out.res.cell (show 1 < 5 by decide)
  have z2 := HT5.out.res.cell (show 2 < 5 by decide)
  have z3 := HT5.out.res.cell (show 3 < 5 by decide)
  have z4 := HT5.out.res.cell (show 4 < 5 by decide)
  have g0 := HT5.out.res.frozen 0
  have g1 := HT5.out.res.frozen 1
  have g2 := HT5.out.res.frozen 2
  have g3 := HT5.out.res.frozen 3
  have g4 := HT5.out.res.frozen 4
  simp only [hdAt, Hd.cells, List.getD_cons_succ, List.getD_cons_zero] at z0 z1 z2 z3 z4
  go_wp2_with fail
  refine bodyPost_ret (v := .tuple #[.agg #[.int .i64 h'.k, .int .i64 h'.n, .string h'.s, .slice h'.A h'.la h'.lc, .slice h'.F h'.lf h'.fc], .int .i64 0]) (by simp [results, Try.results90, go_sem, z0, z1, z2, z3, z4]; try rfl) rfl ?_
  refine ⟨b, h', 0, rfl, res_below HT5.out.bel (by omega), ?_, .inl ⟨HY.out, rfl, rfl⟩⟩
  exact Lies.keep (fun q hq _ => World.cell?_of_block (res_set (w := w) _ (fun e => by
    rcases hq with hq | hq
    · have := HSb.out _ hq; omega
    · omega))) (fun q hq _ => hq.elim .inl (fun h => .inr (by omega))) _ _ HL5.out
set_option maxHeartbeats 4000000 in
set_option maxRecDepth 100000 in
theorem puts_ref (a x : Va) (S S' : Nat → Prop) (h hx : Hd) (w : World) (A : Option Addr) (m c : Nat) (p : List St) (H : Lies w S a h) (HX : Lies w S' x hx) (hsh : a.Sh) (hcn : a.cnt ≤ 400) (hxs : x.Sh) (hA : PathAt w A p) (hm : m = p.length) (hc : m ≤ c) (hp : m ≤ 1000) (hkk : ∀ s ∈ p, s.k.size ≤ 4294967296) :
    Calls Try.prog 52 #[h.val, .slice A m c, hx.val] w fun e w' => PutQ a p x w e w' := by
  have HS := Lib.hid (show Lies w (fun b => b < w.heap.size) a h from Lies.keep (fun _ _ _ => rfl) (fun b _ hb => hb) _ _ H)
  have HSX := Lib.hid (show Lies w (fun b => b < w.heap.size) x hx from Lies.keep (fun _ _ _ => rfl) (fun b _ hb => hb) _ _ HX)
  have HSH := Lib.hid hsh
  have HXS := Lib.hid hxs
  have HA := Lib.hid hA
  have HM := Lib.hid hm
  have HKK := Lib.hid hkk
  have HCA := Lib.hid hcn
  have htb := TB.start w h hx
  have K1 := Lib.hid (rightref x _ hx _ (HSX.out.below htb.bel (Nat.le_refl _)) hxs)
  unfold Hd.val at *
  clear H HX hsh hxs hA hm htb hcn hkk
  go_enter Try.func52, Try.ntmps52
  go_wp2_with fail
  refine K1.out.mono ?_
  rintro e w1 ⟨r, rfl, hr, hb1⟩
  have HT1 := Lib.hid (three_blocks hb1)
  have HR := Lib.hid hr
  clear hb1 hr K1
  cases r
  · have z0 := HT1.out.res.cell (show 0 < 5 by decide)
    have z1 := HT1.out.res.cell (show 1 < 5 by decide)
    have z2 := HT1.out.res.cell (show 2 < 5 by decide)
    have z3 := HT1.out.res.cell (show 3 < 5 by decide)
    have z4 := HT1.out.res.cell (show 4 < 5 by decide)
    have g0 := HT1.out.res.frozen 0
    have g1 := HT1.out.res.frozen 1
    have g2 := HT1.out.res.frozen 2
    have g3 := HT1.out.res.frozen 3
    have g4 := HT1.out.res.frozen 4
    simp only [hdAt, Hd.cells, List.getD_cons_succ, List.getD_cons_zero] at z0 z1 z2 z3 z4
    go_wp2_with fail
    refine bodyPost_ret (v := .tuple #[.agg #[.int .i64 0, .int .i64 0, .string ⟨#[]⟩, .slice none 0 0, .slice none 0 0], .int .i64 1]) (by simp [results, Try.results52, go_sem, z0, z1, z2, z3, z4]; try rfl) rfl ?_
    exact ⟨zeroVa, zeroHd, 1, rfl, res_below HT1.out.bel (by omega), lies_zero _ _, .inl ⟨fun h => absurd (HR.out.2 (h.2.2 x (by simp))) (by decide), rfl, rfl⟩⟩
  have HXR := Lib.hid (HR.out.1 rfl)
  have hs1 := HT1.out.sz
  clear HR
  have q0 := HT1.out.bv.2 0 _ rfl
  have q1 := HT1.out.bv.2 1 _ rfl
  have q2 := HT1.out.bv.2 2 _ rfl
  have q3 := HT1.out.bv.2 3 _ rfl
  have q4 := HT1.out.bv.2 4 _ rfl
  have K2 := Lib.hid (may_ref (fun b => b < w.heap.size) a h w1 A m c p (HS.out.below HT1.out.bel (Nat.le_refl _)) HSH.out (by have := HCA.out; omega) (HA.out.below HT1.out.bel (Nat.le_refl _)) HM.out hp HKK.out)
  unfold Hd.val at K2
  go_wp2_with fail
  refine K2.out.mono ?_
  rintro e w2 ⟨b, h', er, rfl, hb2, hl2, ho2⟩
  have HTa := Lib.hid (HT1.out.go hb2 HT1.out.sz)
  have HO2 := Lib.hid ho2
  clear hb2 hl2 ho2 K2 HT1 q0 q1 q2 q3 q4
  go_upto_region 4 with fail
  have hb4 := one_alloc w2 (Obj.cells #[.int .i64 h'.k, .int .i64 h'.n, .string h'.s, .slice h'.A h'.la h'.lc, .slice h'.F h'.lf h'.fc] 25)
  generalize w2.alloc (Obj.cells #[.int .i64 h'.k, .int .i64 h'.n, .string h'.s, .slice h'.A h'.la h'.lc, .slice h'.F h'.lf h'.fc] 25) = w3 at hb4 ⊢
  have HT2 := Lib.hid (HTa.out.go hb4 HTa.out.sz)
  clear hb4 HTa
  by_cases he : er = 0
  case neg =>
    have he' := bq_no he
    have HNO : Hid ((¬ AllR a p [x] ∧ er = 1) ∨ (AllR a p [x] ∧ goV a p = none ∧ er = 8)) := Lib.hid (by
      rcases HO2.out with ⟨h1, h2, _⟩ | ⟨h1, h2, h3, h4, _⟩ | ⟨_, _, _, h1⟩
      · exact .inl ⟨fun h => h1 ⟨h.1, h.2.1⟩, h2⟩
      · exact .inr ⟨⟨h1, h2, fun y hy => by simp at hy; subst hy; exact HXR.out⟩, h3, h4⟩
      · exact absurd h1 he)
    clear he
    have z0 := HT2.out.res.cell (show 0 < 5 by decide)
    have z1 := HT2.out.res.cell (show 1 < 5 by decide)
    have z2 := HT2.out.res.cell (show 2 < 5 by decide)
    have z3 := HT2.out.res.cell (show 3 < 5 by decide)
    have z4 := HT2.out.res.cell (show 4 < 5 by decide)
    have g0 := HT2.out.res.frozen 0
    have g1 := HT2.out.res.frozen 1
    have g2 := HT2.out.res.frozen 2
    have g3 := HT2.out.res.frozen 3
    have g4 := HT2.out.res.frozen 4
    simp only [hdAt, Hd.cells, List.getD_cons_succ, List.getD_cons_zero] at z0 z1 z2 z3 z4
    go_wp2_with fail
    refine bodyPost_ret (v := .tuple #[.agg #[.int .i64 0, .int .i64 0, .string ⟨#[]⟩, .slice none 0 0, .slice none 0 0], .int .i64 er]) (by simp [results, Try.results52, go_sem, z0, z1, z2, z3, z4]; try rfl) rfl ?_
    refine ⟨zeroVa, zeroHd, er, rfl, res_below HT2.out.bel (by omega), lies_zero _ _, ?_⟩
    rcases HNO.out with ⟨h1, h2⟩ | ⟨h1, h2, h3⟩
    · exact .inl ⟨h1, h2, rfl⟩
    · exact .inr (.inl ⟨h1, h2, h3, rfl⟩)
  subst he
  have HYES : Hid (AllR a p [x] ∧ (goV a p).isSome = true) := Lib.hid (by
    rcases HO2.out with ⟨_, h2, _⟩ | ⟨_, _, _, h4, _⟩ | ⟨h1, h2, h3, _⟩
    · exact absurd h2 (by decide)
    · exact absurd h4 (by decide)
    · exact ⟨⟨h1, h2, fun y hy => by simp at hy; subst hy; exact HXR.out⟩, by rw [h3]; rfl⟩)
  have hs2 := HT2.out.sz
  have q0 := HT2.out.bv.2 0 _ rfl
  have q1 := HT2.out.bv.2 1 _ rfl
  have q2 := HT2.out.bv.2 2 _ rfl
  have q3 := HT2.out.bv.2 3 _ rfl
  have q4 := HT2.out.bv.2 4 _ rfl
  have x0 := HT2.out.bx.2 0 _ rfl
  have x1 := HT2.out.bx.2 1 _ rfl
  have x2 := HT2.out.bx.2 2 _ rfl
  have x3 := HT2.out.bx.2 3 _ rfl
  have x4 := HT2.out.bx.2 4 _ rfl
  have KC := Lib.hid (changed_ref (fun b => b < w.heap.size) x hx p a h w3 A m c 12 (fun b hb => by omega) (HS.out.below HT2.out.bel (Nat.le_refl _)) (HSX.out.below HT2.out.bel (Nat.le_refl _)) (HA.out.below HT2.out.bel (Nat.le_refl _)) HYES.out.1.2.1.2 HM.out hc hp HSH.out HCA.out HXS.out HYES.out.1.1 HYES.out.2)
  unfold Hd.val at KC
  go_wp2_with fail
  refine KC.out.mono ?_
  rintro e w6 ⟨b6, h6, er, rfl, hb6, hl6, ho6⟩
  have HT6 := Lib.hid (HT2.out.go hb6 HT2.out.sz)
  have HL6 := Lib.hid hl6
  have HO6 := Lib.hid ho6
  clear hb6 hl6 ho6 KC x0 x1 x2 x3 x4 q0 q1 q2 q3 q4
  have z0 := HT6.out.res.cell (show 0 < 5 by decide)
  have z1 := HT6.out.res.cell (show 1 < 5 by decide)
  have z2 := HT6.out.res.cell (show 2 < 5 by decide)
  have z3 := HT6.out.res.cell (show 3 < 5 by decide)
  have z4 := HT6.out.res.cell (show 4 < 5 by decide)
  have g0 := HT6.out.res.frozen 0
  have g1 := HT6.out.res.frozen 1
  have g2 := HT6.out.res.frozen 2
  have g3 := HT6.out.res.frozen 3
  have g4 := HT6.out.res.frozen 4
  simp only [hdAt, Hd.cells, List.getD_cons_succ, List.getD_cons_zero] at z0 z1 z2 z3 z4
  go_wp2_with fail
  refine bodyPost_ret (v := .tuple #[.agg #[.int .i64 h6.k, .int .i64 h6.n, .string h6.s, .slice h6.A h6.la h6.lc, .slice h6.F h6.lf h6.fc], .int .i64 er]) (by simp [results, Try.results52, go_sem, z0, z1, z2, z3, z4]; try rfl) rfl ?_
  refine ⟨b6, h6, er, rfl, res_below HT6.out.bel (by omega), ?_, ?_⟩
  · exact Lies.keep (fun q hq _ => World.cell?_of_block (res_set (w := w) _ (fun e => by rw [e] at hq; omega))) (fun _ _ _ => trivial) _ _ HL6.out
  · rcases HO6.out with ⟨h1, h2, h3⟩ | ⟨h1, h2, h3⟩
    · exact .inr (.inr (.inl ⟨HYES.out.1, HYES.out.2, h1, h2, h3⟩))
    · exact .inr (.inr (.inr ⟨HYES.out.1, HYES.out.2, h1, h2, h3⟩))
end Go.Proofs.Ytmdlcalnncncjaa

/- The reference's Add. -/
set_option linter.unusedVariables false
set_option linter.unusedSimpArgs false
namespace Go.Proofs.Ytmdlcalnncncjaa
open Go.RowKit
/-- The joined list in memory. -/
theorem lies_joinS {w0 w6 w7 : World} {S S2 : Nat → Prop} {l ins : List Va} {us vs : List Hd} {h' : Hd} {A' : Option Addr} {n c' base xb : Nat} (hk : h'.k = 4) (hn : h'.n = 0) (hs : h'.s = ByteArray.empty) (hlf : h'.lf = 0) (hn2 : n = (l ++ ins).length) (hlm : (l ++ ins).length ≤ maxLen)
    (hu : LiesL w0 S l us) (hv : LiesL w0 S ins vs) (hS : ∀ b, S b → b < w0.heap.size) (hS7 : ∀ b, S b → w7.heap[b]? = w0.heap[b]?) (h67 : w6.heap.size ≤ w7.heap.size) (hown : w6.ownsRow base 25 5 (.slice A' n c') n (us.flatMap Hd.cells ++ vs.flatMap Hd.cells)) (hxb : xb < base) (hb7 : ∀ b, b ≠ xb → b < w6.heap.size → w7.heap[b]? = w6.heap[b]?) (hA : ∀ b, S b → S2 b) (hB : ∀ b, base ≤ b → b < w6.heap.size → S2 b) :
    Lies w7 S2 (.mk 4 0 ByteArray.empty (l ++ ins) [] []) ⟨h'.k, h'.n, h'.s, A', n, c', h'.F, h'.lf, h'.fc⟩ := by
  have own7 : w7.ownsRow base 25 5 (.slice A' n c') n ((us ++ vs).flatMap Hd.cells) := own_block (by rw [List.flatMap_append]; exact hown) fun g hg => hb7 g (by have := (own_lo hown hg).1; omega) (own_lo hown hg).2
  have cap := own_cap own7
  unfold Lies
  refine ⟨⟨hk, hn, hs, hn2, hlf, rfl⟩, ⟨by decide, by decide, by decide, by simp, hlm, by decide, by show (l ++ ins).length ≤ c'; omega, Nat.zero_le _⟩, ⟨us ++ vs, row_of_own Hd.cells (us ++ vs) cells_len own7 (fun g hg => hB g (own_lo hown hg).1 (own_lo hown hg).2) (.inr (by decide)), LiesL_mk (by simp [LiesL_len hu, LiesL_len hv]) fun i y u hy hu2 => ?_⟩, ⟨[], fun h => by simp at h, by unfold LiesL; rfl⟩⟩
  have hl := LiesL_len hu
  have hk2 : ∀ y u, Lies w0 S y u → Lies w7 S2 y u := fun y u h => Lies.keep (fun q hq _ => World.cell?_of_block (hS7 _ hq)) (fun b hb _ => hA b hb) y u h
  by_cases e : i < l.length
  · rw [List.getElem?_append_left e] at hy
    rw [List.getElem?_append_left (by omega)] at hu2
    obtain ⟨u', hu', hl'⟩ := LiesL_at hu hy
    rw [hu2] at hu'
    cases hu'
    exact hk2 y u hl'
  · rw [List.getElem?_append_right (by omega)] at hy
    rw [List.getElem?_append_right (by omega), hl] at hu2
    obtain ⟨u', hu', hl'⟩ := LiesL_at hv hy
    rw [hu2] at hu'
    cases hu'
    exact hk2 y u hl'
set_option maxHeartbeats 4000000 in
set_option maxRecDepth 100000 in
theorem may_refS (S : Nat → Prop) (a : Va) (h : Hd) (w : World) (A : Option Addr) (m c : Nat) (p : List St) (hSb : ∀ b, S b → b < w.heap.size) (H : Lies w S a h) (hsh : a.Sh) (hcn : a.cnt ≤ 1000) (hA : PathAt w A p) (hm : m = p.length) (hp : m ≤ 1000) (hkk : ∀ s ∈ p, s.k.size ≤ 4294967296) :
    Calls Try.prog 89 #[h.val, .slice A m c] w fun e w' => MayR S a p w e w' := by
  have HS := Lib.hid H
  have HSb := Lib.hid hSb
  have HSH := Lib.hid hsh
  have HCN := Lib.hid hcn
  have HA := Lib.hid hA
  have HM := Lib.hid hm
  have HKK := Lib.hid hkk
  unfold Hd.val at *
  have hb2 := two_allocs w (Obj.cells #[.int .i64 h.k, .int .i64 h.n, .string h.s, .slice h.A h.la h.lc, .slice h.F h.lf h.fc] 25) (Obj.cells #[.int .i64 0, .int .i64 0, .string { data := #[] }, .slice none 0 0, .slice none 0 0] 25)
  have K1 := Lib.hid (rightref a S h _ (H.below hb2 (Nat.le_refl _)) hsh)
  unfold Hd.val at K1
  clear H hSb hsh hcn hA hb2 hm hkk
  go_enter Try.func89, Try.ntmps89
  go_wp2_with fail
  refine K1.out.mono ?_
  rintro e w1 ⟨r, rfl, hr, hb1⟩
  obtain ⟨hb2, hbx, hres, hsz⟩ := two_blocks hb1
  have HB := Lib.hid hb2
  have HR := Lib.hid hr
  have HBX := Lib.hid hbx
  have HRES := Lib.hid hres
  clear hb1 hb2 hr hbx hres K1
  cases r
  · have HNO : Hid (¬ (a.R 12 ∧ PathR p)) := Lib.hid (fun h => absurd (HR.out.2 h.1) (by decide))
    have z0 := HRES.out.cell (show 0 < 5 by decide)
    have z1 := HRES.out.cell (show 1 < 5 by decide)
    have z2 := HRES.out.cell (show 2 < 5 by decide)
    have z3 := HRES.out.cell (show 3 < 5 by decide)
    have z4 := HRES.out.cell (show 4 < 5 by decide)
    have g0 := HRES.out.frozen 0
    have g1 := HRES.out.frozen 1
    have g2 := HRES.out.frozen 2
    have g3 := HRES.out.frozen 3
    have g4 := HRES.out.frozen 4
    simp only [hdAt, Hd.cells, List.getD_cons_succ, List.getD_cons_zero] at z0 z1 z2 z3 z4
    go_wp2_with fail
    refine bodyPost_ret (v := .tuple #[.agg #[.int .i64 0, .int .i64 0, .string ⟨#[]⟩, .slice none 0 0, .slice none 0 0], .int .i64 1]) (by simp [results, Try.results89, go_sem, z0, z1, z2, z3, z4]; try rfl) rfl ?_
    exact MayR.no HNO.out (res_below HB.out (Nat.le_succ _))
  have HY := Lib.hid (HR.out.1 rfl)
  clear HR
  have KP := Lib.hid (path_right_ref p A m c w1 HM.out (by have := HM.out; unfold maxLen; omega) (HA.out.below HB.out (Nat.le_refl _)) HKK.out)
  go_wp2_with fail
  refine KP.out.mono ?_
  rintro e w2 ⟨r, rfl, hr, hb2⟩
  have HR := Lib.hid hr
  have HB2 := Lib.hid (HB.out.trans (hb2.mono HB.out.size))
  have hsz2 : w.heap.size + 2 ≤ w2.heap.size := by have := hb2.size; omega
  have HBX2 := Lib.hid (HBX.out.go hb2 HBX.out.1)
  have HRES2 := Lib.hid (rowIs_below HRES.out hb2 (by omega))
  clear hb2 hr KP HBX HRES HB
  cases r
  · have HNO : Hid (¬ (a.R 12 ∧ PathR p)) := Lib.hid (fun h => absurd (HR.out.2 h.2) (by decide))
    have z0 := HRES2.out.cell (show 0 < 5 by decide)
    have z1 := HRES2.out.cell (show 1 < 5 by decide)
    have z2 := HRES2.out.cell (show 2 < 5 by decide)
    have z3 := HRES2.out.cell (show 3 < 5 by decide)
    have z4 := HRES2.out.cell (show 4 < 5 by decide)
    have g0 := HRES2.out.frozen 0
    have g1 := HRES2.out.frozen 1
    have g2 := HRES2.out.frozen 2
    have g3 := HRES2.out.frozen 3
    have g4 := HRES2.out.frozen 4
    simp only [hdAt, Hd.cells, List.getD_cons_succ, List.getD_cons_zero] at z0 z1 z2 z3 z4
    go_wp2_with fail
    refine bodyPost_ret (v := .tuple #[.agg #[.int .i64 0, .int .i64 0, .string ⟨#[]⟩, .slice none 0 0, .slice none 0 0], .int .i64 1]) (by simp [results, Try.results89, go_sem, z0, z1, z2, z3, z4]; try rfl) rfl ?_
    exact MayR.no HNO.out (res_below HB2.out (Nat.le_succ _))
  have HYP := Lib.hid (HR.out.1 rfl)
  clear HR
  have b0 := HBX2.out.2 0 _ rfl
  have b1 := HBX2.out.2 1 _ rfl
  have b2 := HBX2.out.2 2 _ rfl
  have b3 := HBX2.out.2 3 _ rfl
  have b4 := HBX2.out.2 4 _ rfl
  have KF := Lib.hid (find_refS S a h w2 (fun b hb => by have := HSb.out b hb; omega) A m c p (HS.out.below HB2.out (Nat.le_refl _)) HCN.out (HA.out.below HB2.out (Nat.le_refl _)) HM.out hp HYP.out.2)
  unfold Hd.val at KF
  go_wp2_with fail
  refine KF.out.mono ?_
  rintro e w3 ⟨b, h', ok, rfl, hb3, hl3, ho3⟩
  have HB3 := Lib.hid (HB2.out.trans (hb3.mono HB2.out.size))
  have hsz3 := hb3.size
  have HRES3 := Lib.hid (rowIs_below HRES2.out hb3 (by omega))
  have HO3 := Lib.hid ho3
  clear hb3 ho3 KF
  go_upto_region 4 with fail
  have hb4 := one_alloc w3 (Obj.cells #[.int .i64 h'.k, .int .i64 h'.n, .string h'.s, .slice h'.A h'.la h'.lc, .slice h'.F h'.lf h'.fc] 25)
  have hcx := Bx.start w3 h' 25
  generalize w3.alloc (Obj.cells #[.int .i64 h'.k, .int .i64 h'.n, .string h'.s, .slice h'.A h'.la h'.lc, .slice h'.F h'.lf h'.fc] 25) = w4 at hb4 hcx ⊢
  have HB4 := Lib.hid (HB3.out.trans (hb4.mono HB3.out.size))
  have HRES4 := Lib.hid (rowIs_below HRES3.out hb4 (by omega))
  have HL4 := Lib.hid (hl3.below hb4 (Nat.le_refl _))
  have x0 := hcx.2 0 _ rfl
  have x1 := hcx.2 1 _ rfl
  have x2 := hcx.2 2 _ rfl
  have x3 := hcx.2 3 _ rfl
  have x4 := hcx.2 4 _ rfl
  have hxl := hcx.1
  have hs4 := hb4.size
  clear hb4 hcx HB3 HRES3 hl3
  have z0 := HRES4.out.cell (show 0 < 5 by decide)
  have z1 := HRES4.out.cell (show 1 < 5 by decide)
  have z2 := HRES4.out.cell (show 2 < 5 by decide)
  have z3 := HRES4.out.cell (show 3 < 5 by decide)
  have z4 := HRES4.out.cell (show 4 < 5 by decide)
  have g0 := HRES4.out.frozen 0
  have g1 := HRES4.out.frozen 1
  have g2 := HRES4.out.frozen 2
  have g3 := HRES4.out.frozen 3
  have g4 := HRES4.out.frozen 4
  simp only [hdAt, Hd.cells, List.getD_cons_succ, List.getD_cons_zero] at z0 z1 z2 z3 z4
  cases ok
  · have HGN : Hid (goV a p = none) := Lib.hid (by rcases HO3.out with ⟨h1, _⟩ | ⟨_, h2, _⟩; cases h1; exact h2)
    go_wp2_with fail
    refine bodyPost_ret (v := .tuple #[.agg #[.int .i64 0, .int .i64 0, .string ⟨#[]⟩, .slice none 0 0, .slice none 0 0], .int .i64 8]) (by simp [results, Try.results89, go_sem, z0, z1, z2, z3, z4]; try rfl) rfl ?_
    exact ⟨zeroVa, zeroHd, 8, rfl, res_below HB4.out (Nat.le_succ _), lies_zero _ _, .inr (.inl ⟨HY.out, HYP.out, HGN.out, rfl, rfl⟩)⟩
  · have HGS : Hid (goV a p = some b) := Lib.hid (by rcases HO3.out with ⟨_, h2⟩ | ⟨h1, _⟩; exact h2; cases h1)
    go_wp2_with fail
    refine bodyPost_ret (v := .tuple #[.agg #[.int .i64 h'.k, .int .i64 h'.n, .string h'.s, .slice h'.A h'.la h'.lc, .slice h'.F h'.lf h'.fc], .int .i64 0]) (by simp [results, Try.results89, go_sem, z0, z1, z2, z3, z4]; try rfl) rfl ?_
    refine ⟨b, h', 0, rfl, res_below HB4.out (Nat.le_succ _), ?_, .inr (.inr ⟨HY.out, HYP.out, HGS.out, rfl⟩)⟩
    exact Lies.keep (fun q hq _ => World.cell?_of_block (res_set (w := w) _ (fun e => by have := HSb.out _ hq; omega))) (fun _ h _ => h) _ _ HL4.out
theorem out_set {O n : Nat} {v : Option Addr} {c i c' : Nat} {A' : Option Addr} : ∀ W : World, W.rowIs O 25 5 (hdAt ⟨4, 0, ByteArray.empty, A', i, c', none, 0, 0⟩) → (W.setCell ⟨O, 3, none⟩ (.slice v n c)).rowIs O 25 5 (hdAt ⟨4, 0, ByteArray.empty, v, n, c, none, 0, 0⟩) := fun W H => by
  refine (H.set 3 _).congr (fun j hj => ?_)
  match j, hj with
  | 0, _ => rfl
  | 1, _ => rfl
  | 2, _ => rfl
  | 3, _ => rfl
  | 4, _ => rfl
set_option maxHeartbeats 8000000 in
set_option maxRecDepth 100000 in
theorem add_ref (a : Va) (S S' : Nat → Prop) (h : Hd) (w : World) (A : Option Addr) (m c : Nat) (p : List St) (B : Option Addr) (bn bc : Nat) (ins : List Va) (H : Lies w S a h) (hsh : a.Sh) (hcn : a.cnt ≤ 200) (hA : PathAt w A p) (hm : m = p.length) (hc : m ≤ c) (hp : m ≤ 1000) (hkk : ∀ s ∈ p, s.k.size ≤ 4294967296) (HI : Lies w S' (lsVa ins) (lsHd B bn bc)) (his : (lsVa ins).Sh) (hic : (lsVa ins).cnt ≤ 200) :
    Calls Try.prog 57 #[h.val, .slice A m c, .slice B bn bc] w fun e w' => AddQ a p ins w e w' := by
  have HS := Lib.hid (show Lies w (fun b => b < w.heap.size) a h from Lies.keep (fun _ _ _ => rfl) (fun b _ hb => hb) _ _ H)
  have HSI := Lib.hid (show Lies w (fun b => b < w.heap.size) (lsVa ins) (lsHd B bn bc) from Lies.keep (fun _ _ _ => rfl) (fun b _ hb => hb) _ _ HI)
  have HIN := Lib.hid (insAt_of HI his (by omega))
  have HSH := Lib.hid hsh
  have HCN := Lib.hid hcn
  have HIS := Lib.hid his
  have HIC := Lib.hid hic
  have HA := Lib.hid hA
  have HM := Lib.hid hm
  have HKK := Lib.hid hkk
  have hbn : bn = ins.length := by simp only [lsVa, lsHd, Lies] at HI; exact HI.1.2.2.2.1
  have hil : ins.length ≤ 200 := by have := len_le_cntL ins; simp only [lsVa, Va.cnt] at hic; omega
  have HBN := Lib.hid hbn
  obtain ⟨i0, hi0, hz0, hz1, hz2⟩ := info_parts info25
  unfold Hd.val at *
  have hb2 := two_allocs w (Obj.cells #[.int .i64 h.k, .int .i64 h.n, .string h.s, .slice h.A h.la h.lc, .slice h.F h.lf h.fc] 25) (Obj.cells #[.int .i64 0, .int .i64 0, .string { data := #[] }, .slice none 0 0, .slice none 0 0] 25)
  have hbl : bn ≤ 200 := by omega
  have HBX0 := Lib.hid ((Bx.start w h 25).alloc (Obj.cells #[.int .i64 0, .int .i64 0, .string { data := #[] }, .slice none 0 0, .slice none 0 0] 25))
  have HRES0 : Hid (((w.alloc (Obj.cells #[.int .i64 h.k, .int .i64 h.n, .string h.s, .slice h.A h.la h.lc, .slice h.F h.lf h.fc] 25)).alloc (Obj.cells #[.int .i64 0, .int .i64 0, .string { data := #[] }, .slice none 0 0, .slice none 0 0] 25)).rowIs (w.heap.size + 1) 25 5 zeroRes) := Lib.hid (by
    refine hdAt_row (h := zeroHd) ?_
    have h9 := heap_alloc_new (w.alloc (Obj.cells #[.int .i64 h.k, .int .i64 h.n, .string h.s, .slice h.A h.la h.lc, .slice h.F h.lf h.fc] 25)) (Obj.cells #[.int .i64 0, .int .i64 0, .string { data := #[] }, .slice none 0 0, .slice none 0 0] 25)
    rwa [World.size_alloc] at h9)
  have hsz : ((w.alloc (Obj.cells #[.int .i64 h.k, .int .i64 h.n, .string h.s, .slice h.A h.la h.lc, .slice h.F h.lf h.fc] 25)).alloc (Obj.cells #[.int .i64 0, .int .i64 0, .string { data := #[] }, .slice none 0 0, .slice none 0 0] 25)).heap.size = w.heap.size + 2 := by simp
  clear H hsh hcn hA hm HI his hic hbn hil hkk
  go_enter Try.func57, Try.ntmps57
  go_wp2_with fail
  generalize ((w.alloc (Obj.cells #[.int .i64 h.k, .int .i64 h.n, .string h.s, .slice h.A h.la h.lc, .slice h.F h.lf h.fc] 25)).alloc (Obj.cells #[.int .i64 0, .int .i64 0, .string { data := #[] }, .slice none 0 0, .slice none 0 0] 25)) = wd at hb2 HBX0 HRES0 hsz ⊢
  have HB2 := Lib.hid hb2
  have HSZ := Lib.hid hsz
  have hszl : w.heap.size + 2 ≤ wd.heap.size := by omega
  clear hb2 hsz
  go_loopw [8] (fun iv wr => ∃ i : Nat, iv = .int .i64 i ∧ i ≤ bn ∧ (∀ x ∈ ins.take i, x.R 12) ∧ Below wd.heap.size wd wr) (fun iv _ => bn - (intOf iv).toNat)
  case atStart => exact ⟨0, rfl, Nat.zero_le _, by simp, Below.refl _ _⟩
  case round =>
    obtain ⟨i, rfl, hi, hall, hbr⟩ := hrel
    have HALL := Lib.hid hall
    have HBR := Lib.hid hbr
    have HBW := Lib.hid (HB2.out.trans (hbr.mono HB2.out.size))
    have hszr := hbr.size
    have HBXr := Lib.hid (HBX0.out.go hbr HBX0.out.1)
    have HRESr := Lib.hid (rowIs_below HRES0.out hbr (by omega))
    clear hall hbr
    by_cases hlt : i < bn
    · obtain ⟨x, hx⟩ : ∃ x, ins[i]? = some x := ⟨ins[i]'(by have := HBN.out; omega), List.getElem?_eq_getElem (by have := HBN.out; omega)⟩
      obtain ⟨ad, u, e, hab, hLu, hat, hxs, hxc⟩ := (HIN.out.below HBW.out (Nat.le_refl _)) i x hx
      subst e
      obtain ⟨k0, k1, k2, k3, k4⟩ := hat
      have KX := Lib.hid (rightref x _ u wr hLu hxs)
      unfold Hd.val at KX
      have HX := Lib.hid hx
      clear hLu hxs hxc hx
      go_wp2_with fail
      refine KX.out.mono ?_
      rintro e w3 ⟨r, rfl, hr, hb3⟩
      have HR := Lib.hid hr
      have HB3 := Lib.hid hb3
      have HRES3 := Lib.hid (rowIs_below HRESr.out hb3 (by omega))
      clear hb3 hr KX
      cases r
      · have HNO : Hid (¬ AllR a p ins) := Lib.hid (fun h => absurd (HR.out.2 (h.2.2 x (List.mem_of_getElem? HX.out))) (by decide))
        have z0 := HRES3.out.cell (show 0 < 5 by decide)
        have z1 := HRES3.out.cell (show 1 < 5 by decide)
        have z2 := HRES3.out.cell (show 2 < 5 by decide)
        have z3 := HRES3.out.cell (show 3 < 5 by decide)
        have z4 := HRES3.out.cell (show 4 < 5 by decide)
        have g0 := HRES3.out.frozen 0
        have g1 := HRES3.out.frozen 1
        have g2 := HRES3.out.frozen 2
        have g3 := HRES3.out.frozen 3
        have g4 := HRES3.out.frozen 4
        simp only [hdAt, Hd.cells, List.getD_cons_succ, List.getD_cons_zero] at z0 z1 z2 z3 z4
        go_wp2_with fail
        refine bodyPost_ret (v := .tuple #[.agg #[.int .i64 0, .int .i64 0, .string ⟨#[]⟩, .slice none 0 0, .slice none 0 0], .int .i64 1]) (by simp [results, Try.results57, go_sem, z0, z1, z2, z3, z4]; try rfl) rfl ?_
        exact ⟨zeroVa, zeroHd, 1, rfl, res_below (HBW.out.trans (HB3.out.mono HBW.out.size)) (Nat.le_succ _), lies_zero _ _, .inl ⟨HNO.out, rfl, rfl⟩⟩
      · have HN := Lib.hid (InsR_next HALL.out HX.out (HR.out.1 rfl))
        go_wp2_with fail
        exact ⟨⟨i + 1, by go_num, by omega, HN.out, HBR.out.trans (HB3.out.mono HBR.out.size)⟩, by simp [intOf]; omega⟩
    · have HYA : Hid (∀ x ∈ ins, x.R 12) := Lib.hid (by have h1 := HALL.out; have h2 := HBN.out; rwa [List.take_of_length_le (by omega)] at h1)
      have b0 := HBXr.out.2 0 _ rfl
      have b1 := HBXr.out.2 1 _ rfl
      have b2 := HBXr.out.2 2 _ rfl
      have b3 := HBXr.out.2 3 _ rfl
      have b4 := HBXr.out.2 4 _ rfl
      have KF := Lib.hid (may_refS (fun b => b < w.heap.size) a h wr A m c p (fun b hb => by omega) (HS.out.below HBW.out (Nat.le_refl _)) HSH.out (Nat.le_trans HCN.out (by decide)) (HA.out.below HBW.out (Nat.le_refl _)) HM.out hp HKK.out)
      unfold Hd.val at KF
      go_wp2_with fail
      refine KF.out.mono ?_
      rintro e w1 ⟨b, h', er, rfl, hb1, hl1, ho1⟩
      have HO1 := Lib.hid ho1
      have HL1 := Lib.hid hl1
      have HB := Lib.hid (HBW.out.trans (hb1.mono HBW.out.size))
      have HRES := Lib.hid (rowIs_below HRESr.out hb1 (by omega))
      have HBX := Lib.hid (HBXr.out.go hb1 HBXr.out.1)
      have hs1 := hb1.size
      clear hb1 hl1 ho1 KF b0 b1 b2 b3 b4
      go_upto_region 7 with fail
      have hb4 := one_alloc w1 (Obj.cells #[.int .i64 h'.k, .int .i64 h'.n, .string h'.s, .slice h'.A h'.la h'.lc, .slice h'.F h'.lf h'.fc] 25)
      have hcx : (w1.alloc (Obj.cells #[.int .i64 h'.k, .int .i64 h'.n, .string h'.s, .slice h'.A h'.la h'.lc, .slice h'.F h'.lf h'.fc] 25)).rowIs w1.heap.size 25 5 (hdAt h') := hdAt_row (heap_alloc_new _ _)
      generalize w1.alloc (Obj.cells #[.int .i64 h'.k, .int .i64 h'.n, .string h'.s, .slice h'.A h'.la h'.lc, .slice h'.F h'.lf h'.fc] 25) = w4 at hb4 hcx ⊢
      have HB4 := Lib.hid (HB.out.trans (hb4.mono HB.out.size))
      have HRES4 := Lib.hid (rowIs_below HRES.out hb4 (by omega))
      have HBX4 := Lib.hid (HBX.out.go hb4 HBX.out.1)
      have HL4 := Lib.hid (HL1.out.below hb4 (Nat.le_refl _))
      have HCX := Lib.hid hcx
      have hxl := hcx.lt
      have hs4 := hb4.size
      have x0 := hcx.cell (show 0 < 5 by decide)
      have x1 := hcx.cell (show 1 < 5 by decide)
      have x2 := hcx.cell (show 2 < 5 by decide)
      have x3 := hcx.cell (show 3 < 5 by decide)
      have x4 := hcx.cell (show 4 < 5 by decide)
      simp only [hdAt, Hd.cells, List.getD_cons_succ, List.getD_cons_zero] at x0 x1 x2 x3 x4
      clear hb4 hcx HB HRES HL1 HBX
      by_cases he : er = 0
      case neg =>
        have he' := bq_no he
        have HNO : Hid (AddC a p ins er zeroVa) := Lib.hid (by
          rcases HO1.out with ⟨h1, h2, _⟩ | ⟨h1, h2, h3, h4, _⟩ | ⟨_, _, _, h1⟩
          · exact .inl ⟨fun h => h1 ⟨h.1, h.2.1⟩, h2, rfl⟩
          · exact .inr (.inl ⟨⟨h1, h2, HYA.out⟩, h3, h4, rfl⟩)
          · exact absurd h1 he)
        clear he
        have z0 := HRES4.out.cell (show 0 < 5 by decide)
        have z1 := HRES4.out.cell (show 1 < 5 by decide)
        have z2 := HRES4.out.cell (show 2 < 5 by decide)
        have z3 := HRES4.out.cell (show 3 < 5 by decide)
        have z4 := HRES4.out.cell (show 4 < 5 by decide)
        have g0 := HRES4.out.frozen 0
        have g1 := HRES4.out.frozen 1
        have g2 := HRES4.out.frozen 2
        have g3 := HRES4.out.frozen 3
        have g4 := HRES4.out.frozen 4
        simp only [hdAt, Hd.cells, List.getD_cons_succ, List.getD_cons_zero] at z0 z1 z2 z3 z4
        go_wp2_with fail
        refine bodyPost_ret (v := .tuple #[.agg #[.int .i64 0, .int .i64 0, .string ⟨#[]⟩, .slice none 0 0, .slice none 0 0], .int .i64 er]) (by simp [results, Try.results57, go_sem, z0, z1, z2, z3, z4]; try rfl) rfl ?_
        exact ⟨zeroVa, zeroHd, er, rfl, res_below HB4.out (Nat.le_succ _), lies_zero _ _, HNO.out⟩
      subst he
      have HYES : Hid (AllR a p ins ∧ goV a p = some b) := Lib.hid (by
        rcases HO1.out with ⟨_, h1, _⟩ | ⟨_, _, _, h1, _⟩ | ⟨h1, h2, h3, _⟩
        · exact absurd h1 (by decide)
        · exact absurd h1 (by decide)
        · exact ⟨⟨h1, h2, HYA.out⟩, h3⟩)
      clear HO1
      have HBRR := Lib.hid (goV_R HYES.out.1.1 HYES.out.2)
      have HBS := Lib.hid (goV_sh HSH.out HYES.out.2)
      have HBC2 := Lib.hid (goV_cnt HCN.out HYES.out.2)
      obtain ⟨bk, bnn, bs, l, ks, f⟩ := b
      have hL := HL4.out
      simp only [Lies] at hL
      obtain ⟨⟨e1, e2, e3, e4, e5, e6⟩, -, -⟩ := hL
      have HE := Lib.hid (show h'.k = bk ∧ h'.n = bnn ∧ h'.s = bs ∧ h'.la = l.length ∧ h'.lf = f.length ∧ ks.length = f.length from ⟨e1, e2, e3, e4, e5, e6⟩)
      clear e1 e2 e3 e4 e5 e6
      by_cases hk : h'.k = 4
      case neg =>
        have hk' := bq_no hk
        have HK := Lib.hid hk
        clear hk
        have z0 := HRES4.out.cell (show 0 < 5 by decide)
        have z1 := HRES4.out.cell (show 1 < 5 by decide)
        have z2 := HRES4.out.cell (show 2 < 5 by decide)
        have z3 := HRES4.out.cell (show 3 < 5 by decide)
        have z4 := HRES4.out.cell (show 4 < 5 by decide)
        have g0 := HRES4.out.frozen 0
        have g1 := HRES4.out.frozen 1
        have g2 := HRES4.out.frozen 2
        have g3 := HRES4.out.frozen 3
        have g4 := HRES4.out.frozen 4
        simp only [hdAt, Hd.cells, List.getD_cons_succ, List.getD_cons_zero] at z0 z1 z2 z3 z4
        go_wp2_with fail
        refine bodyPost_ret (v := .tuple #[.agg #[.int .i64 0, .int .i64 0, .string ⟨#[]⟩, .slice none 0 0, .slice none 0 0], .int .i64 9]) (by simp [results, Try.results57, go_sem, z0, z1, z2, z3, z4]; try rfl) rfl ?_
        exact ⟨zeroVa, zeroHd, 9, rfl, res_below HB4.out (Nat.le_succ _), lies_zero _ _, .inr (.inr (.inl ⟨_, HYES.out.1, HYES.out.2, fun e => HK.out (HE.out.1.trans e), rfl, rfl⟩))⟩
      have hk' : ((h'.k : Int) == 4) = true := by simpa using hk
      obtain rfl : bk = 4 := HE.out.1.symm.trans hk
      obtain ⟨rfl, rfl, rfl, rfl⟩ := list_R HBRR.out HE.out.2.2.2.2.2
      have HK4 := Lib.hid hk
      clear hk
      obtain ⟨us, vs0, hul, -, hrL, hLL, -, -⟩ := HL4.out.rows
      obtain ⟨vs, vs1, hvl, -, hrI, hLI, -, -⟩ := (HSI.out.below HB4.out (Nat.le_refl _)).rows
      have hla : h'.la = us.length := by rw [hul]; exact HE.out.2.2.2.1
      have hbn2 : bn = vs.length := by rw [hvl]; exact HBN.out
      have hul2 : h'.la ≤ 200 := by have h1 := len_le_cntL l; have h2 := HBC2.out; simp only [Va.cnt] at h2; omega
      have HSL : Hid (SrcAt w4 h'.A h'.la (us.flatMap Hd.cells)) := Lib.hid (by rw [hla]; exact src_of_row hrL)
      have HSI2 : Hid (SrcAt w4 B bn (vs.flatMap Hd.cells)) := Lib.hid (by rw [hbn2]; exact src_of_row hrI)
      have HFL : Hid ((us.flatMap Hd.cells).length = h'.la * 5) := Lib.hid (by rw [hla]; exact flat_lenL us)
      have HFI : Hid ((vs.flatMap Hd.cells).length = bn * 5) := Lib.hid (by rw [hbn2]; exact flat_lenL vs)
      have HLL := Lib.hid hLL
      have HLI := Lib.hid hLI
      have HLN := Lib.hid (show h'.la + bn = (l ++ ins).length by rw [List.length_append]; have h1 := HE.out.2.2.2.1; have h2 := HBN.out; omega)
      clear hrL hLL hrI hLI hla hbn2 hul hvl
      clear HBXr HRESr HBR HIN HSI HBW
      go_upto_region 12 with fail
      have hbo := one_alloc w4 (Obj.cells #[.int .i64 4, .int .i64 0, .string { data := #[] }, .slice none 0 0, .slice none 0 0] 25)
      have hro : (w4.alloc (Obj.cells #[.int .i64 4, .int .i64 0, .string { data := #[] }, .slice none 0 0, .slice none 0 0] 25)).rowIs w4.heap.size 25 5 (hdAt ⟨4, 0, ByteArray.empty, none, 0, 0, none, 0, 0⟩) := hdAt_row (h := ⟨4, 0, ByteArray.empty, none, 0, 0, none, 0, 0⟩) (heap_alloc_new _ _)
      have hso : (w4.alloc (Obj.cells #[.int .i64 4, .int .i64 0, .string { data := #[] }, .slice none 0 0, .slice none 0 0] 25)).heap.size = w4.heap.size + 1 := by simp
      generalize w4.alloc (Obj.cells #[.int .i64 4, .int .i64 0, .string { data := #[] }, .slice none 0 0, .slice none 0 0] 25) = wo at hbo hro hso ⊢
      have HBO := Lib.hid hbo
      have HRO := Lib.hid hro
      have HSO := Lib.hid hso
      have hol : w4.heap.size < wo.heap.size := by omega
      have X3 := (hbo.cell (p := ⟨w1.heap.size, 3, none⟩) hxl).trans x3
      have cO := hro.cell (show 3 < 5 by decide)
      have fO := hro.frozen 3
      have HO0 := Lib.hid (World.ownsRow_nil wo wo.heap.size 25 5)
      have HSLo := Lib.hid (HSL.out.below hbo (Nat.le_refl _))
      simp only [hdAt, Hd.cells, List.getD_cons_succ, List.getD_cons_zero] at cO
      clear hbo hro hso x0 x1 x2 x3 x4
      go_upto_region 13 with (at_builtin; refine wpList_append_may wo rfl _ _ 22 rfl wo.heap.size 25 i0 _ 5 80 Try.underlying22 hi0 hz0 hz1 hz2 rfl (by decide) (.slice none 0 0) 0 [] rfl HO0.out h'.A h'.la h'.lc (us.flatMap Hd.cells) rfl HFL.out HSLo.out (flat_oneL us) (by unfold maxLen; omega) (by omega) (Nat.le_refl _) ?_; intro v1 w5 hown5 hgrow5 hat5; rw [Nat.zero_add, List.nil_append] at hown5; obtain ⟨A1, c1, rfl⟩ := own_slice hown5; have cO5 := cur_gr cO (Below.refl _ _) hgrow5 (by simp [Value.ownBlock]); have fO5 := cur_grf cO fO (Below.refl _ _) hgrow5 (by simp [Value.ownBlock]))
      have hb5 : Below wo.heap.size wo w5 := (Below.refl _ _).grown hgrow5 (Nat.le_refl _) (fun g hg => by simp [Value.ownBlock] at hg)
      have hr5 := rowIs_below HRO.out hb5 hol
      have hs5 := hb5.size
      have hr6 : (w5.setCell ⟨w4.heap.size, 3, none⟩ (.slice A1 h'.la c1)).rowIs w4.heap.size 25 5 (hdAt ⟨4, 0, ByteArray.empty, A1, h'.la, c1, none, 0, 0⟩) := out_set _ hr5
      have hk6 : ∀ b, b ≠ w4.heap.size → (w5.setCell ⟨w4.heap.size, 3, none⟩ (.slice A1 h'.la c1)).heap[b]? = w5.heap[b]? := fun b hb => Below.heap_setCell _ _ _ _ hb
      have hs6 : (w5.setCell ⟨w4.heap.size, 3, none⟩ (.slice A1 h'.la c1)).heap.size = w5.heap.size := by simp
      have hb46 : Below w4.heap.size w4 (w5.setCell ⟨w4.heap.size, 3, none⟩ (.slice A1 h'.la c1)) := (HBO.out.trans (hb5.mono (by omega))).setCell (Nat.le_refl _) _
      generalize (w5.setCell ⟨w4.heap.size, 3, none⟩ (.slice A1 h'.la c1)) = w6 at hr6 hk6 hs6 hb46 ⊢
      have HB46 := Lib.hid hb46
      clear hb46
      have HB5 := Lib.hid hb5
      have HK6 := Lib.hid hk6
      have HR6 := Lib.hid hr6
      have HS6 := Lib.hid hs6
      have hs6l : wo.heap.size ≤ w6.heap.size := by omega
      have HO6 := Lib.hid (own_block hown5 (fun g hg => hk6 g (by have := (own_lo hown5 hg).1; omega)) : w6.ownsRow wo.heap.size 25 5 (.slice A1 h'.la c1) h'.la (us.flatMap Hd.cells))
      have HSI6 := Lib.hid (show SrcAt w6 B bn (vs.flatMap Hd.cells) from by
        have h1 := (HSI2.out.below HBO.out (Nat.le_refl _)).below hb5 (Nat.le_refl _)
        rcases HSI2.out with ⟨ad, e, h2⟩ | h2
        · refine .inl ⟨ad, e, fun j u hu => ?_⟩
          have h3 := h2 j u hu
          have h4 := World.block_lt_of_cell? w4 _ h3
          rw [World.cell?_of_block (hk6 _ (by omega)), hb5.cell (by omega), HBO.out.cell h4]
          exact h3
        · exact .inr h2)
      have cO6 := hr6.cell (show 3 < 5 by decide)
      have fO6 := hr6.frozen 3
      simp only [hdAt, Hd.cells, List.getD_cons_succ, List.getD_cons_zero] at cO6
      have HNE := Lib.hid (show some w4.heap.size ≠ (Value.slice A1 h'.la c1).ownBlock from fun e => by have := (own_lo HO6.out e.symm).1; omega)
      clear hb5 hr5 hs5 hr6 hk6 hs6 hown5 hgrow5 hat5 cO fO X3 cO5 fO5
      go_upto_region 14 with (at_builtin; refine wpList_append_may w6 rfl _ _ 22 rfl wo.heap.size 25 i0 _ 5 80 Try.underlying22 hi0 hz0 hz1 hz2 rfl (by decide) (.slice A1 h'.la c1) h'.la (us.flatMap Hd.cells) rfl HO6.out B bn bc (vs.flatMap Hd.cells) rfl HFI.out HSI6.out (flat_oneL vs) (by unfold maxLen; omega) (by omega) hs6l ?_; intro v2 w7 hown7 hgrow7 hat7; obtain ⟨A2, c2, rfl⟩ := own_slice hown7; have cO7 := cur_gr cO6 (Below.refl _ _) hgrow7 HNE.out; have fO7 := cur_grf cO6 fO6 (Below.refl _ _) hgrow7 HNE.out)
      have hs7 := hgrow7.size
      have hblk7 : ∀ b, b < wo.heap.size → w7.heap[b]? = w6.heap[b]? := fun b hb => hgrow7.block b (by omega) (fun e => by have := (own_lo HO6.out e.symm).1; omega)
      have hr7 : w7.rowIs w4.heap.size 25 5 (hdAt ⟨4, 0, ByteArray.empty, A1, h'.la, c1, none, 0, 0⟩) := rowIs_below' (B := 0) HR6.out (hblk7 _ hol)
      have hr8 : (w7.setCell ⟨w4.heap.size, 3, none⟩ (.slice A2 (h'.la + bn) c2)).rowIs w4.heap.size 25 5 (hdAt ⟨4, 0, ByteArray.empty, A2, h'.la + bn, c2, none, 0, 0⟩) := out_set _ hr7
      have hk8 : ∀ b, b ≠ w4.heap.size → (w7.setCell ⟨w4.heap.size, 3, none⟩ (.slice A2 (h'.la + bn) c2)).heap[b]? = w7.heap[b]? := fun b hb => Below.heap_setCell _ _ _ _ hb
      have hs8 : (w7.setCell ⟨w4.heap.size, 3, none⟩ (.slice A2 (h'.la + bn) c2)).heap.size = w7.heap.size := by simp
      have hb67 : Below wo.heap.size w6 w7 := (Below.refl _ _).grown hgrow7 hs6l (fun g hg => (own_lo HO6.out hg).1)
      have hb8 : Below w.heap.size w (w7.setCell ⟨w4.heap.size, 3, none⟩ (.slice A2 (h'.la + bn) c2)) := by
        exact (HB4.out.trans ((HB46.out.trans (hb67.mono (by omega))).mono HB4.out.size)).setCell (by show w.heap.size ≤ w4.heap.size; omega) _
      generalize (w7.setCell ⟨w4.heap.size, 3, none⟩ (.slice A2 (h'.la + bn) c2)) = w8 at hr8 hk8 hs8 hb8 ⊢
      have HB8 := Lib.hid hb8
      have hs8l : wo.heap.size ≤ w8.heap.size := by omega
      have hk48 : ∀ b, b < w4.heap.size → w8.heap[b]? = w4.heap[b]? := fun b hb => by
        rw [hk8 b (by omega), hblk7 b (by omega)]
        exact HB46.out.block b hb
      have HLX : Hid (Lies w8 (fun b => (b < w.heap.size ∨ wo.heap.size ≤ b) ∧ b < w8.heap.size) (.mk 4 0 ByteArray.empty (l ++ ins) [] []) ⟨4, 0, ByteArray.empty, A2, h'.la + bn, c2, none, 0, 0⟩) := Lib.hid (lies_joinS (w0 := w4) (w6 := w7) (S := fun b => b < w.heap.size) (xb := w4.heap.size) (h' := ⟨4, 0, ByteArray.empty, none, 0, 0, none, 0, 0⟩) rfl rfl rfl rfl HLN.out (by have := HLN.out; unfold maxLen; omega) HLL.out HLI.out (fun b hb => by omega) (fun b hb => hk48 b (by omega)) (by omega) hown7 hol (fun b h1 _ => hk8 b h1) (fun b hb => ⟨.inl hb, by omega⟩) (fun b h1 h2 => ⟨.inr h1, by omega⟩))
      have HJS : Hid ((Va.mk 4 0 ByteArray.empty (l ++ ins) [] []).Sh ∧ (Va.mk 4 0 ByteArray.empty (l ++ ins) [] []).cnt ≤ 400) := Lib.hid (by
        have h1 := HBS.out
        have h2 := HIS.out
        have h3 := HBC2.out
        have h4 := HIC.out
        simp only [lsVa, Va.Sh, Va.cnt] at h1 h2 h3 h4 ⊢
        rw [cntL_app, ShL_app]
        exact ⟨⟨h1.1, ⟨h1.2.1, h2.2.1⟩, h1.2.2⟩, by omega⟩)
      have KC := Lib.hid (changed_ref (fun b => (b < w.heap.size ∨ wo.heap.size ≤ b) ∧ b < w8.heap.size) (.mk 4 0 ByteArray.empty (l ++ ins) [] []) ⟨4, 0, ByteArray.empty, A2, h'.la + bn, c2, none, 0, 0⟩ p a h w8 A m c 12 (fun b hb => hb.2) (Lies.keep (fun _ _ _ => rfl) (fun b hb h9 => ⟨.inl hb, h9⟩) _ _ (HS.out.below HB8.out (Nat.le_refl _))) HLX.out (HA.out.below HB8.out (Nat.le_refl _)) HYES.out.1.2.1.2 HM.out hc hp HSH.out (Nat.le_trans HCN.out (by decide)) HJS.out.1 HYES.out.1.1 (by rw [HYES.out.2]; rfl))
      unfold Hd.val at KC
      have hbv : Bx w8 w.heap.size h := by
        have h1 := HBX4.out
        exact ⟨by have := h1.1; omega, fun j c hj => (World.cell?_of_block (a := ⟨w.heap.size, j, none⟩) (hk48 _ (by show w.heap.size < w4.heap.size; omega))).trans (h1.2 j c hj)⟩
      have HR8 := Lib.hid (show w8.rowIs (w.heap.size + 1) 25 5 zeroRes from HRES4.out.of_block (hk48 _ (by omega)))
      have q0 := hbv.2 0 _ rfl
      have q1 := hbv.2 1 _ rfl
      have q2 := hbv.2 2 _ rfl
      have q3 := hbv.2 3 _ rfl
      have q4 := hbv.2 4 _ rfl
      have x0 := hr8.cell (show 0 < 5 by decide)
      have x1 := hr8.cell (show 1 < 5 by decide)
      have x2 := hr8.cell (show 2 < 5 by decide)
      have x3 := hr8.cell (show 3 < 5 by decide)
      have x4 := hr8.cell (show 4 < 5 by decide)
      simp only [hdAt, Hd.cells, List.getD_cons_succ, List.getD_cons_zero] at x0 x1 x2 x3 x4
      clear hbv hr8 hk8 hb8 hk48 hr7 hblk7 hb67 hown7 hgrow7 hat7 cO6 fO6 cO7 fO7 hs7 hs8
      go_wp2_with fail
      refine KC.out.mono ?_
      rintro e w9 ⟨b8, h8, er, rfl, hb9, hl9, ho9⟩
      have HB9 := Lib.hid (HB8.out.trans (hb9.mono HB8.out.size))
      have HR9 := Lib.hid (rowIs_below HR8.out hb9 (by omega))
      have HL9 := Lib.hid hl9
      have HO9 := Lib.hid ho9
      clear hb9 hl9 ho9 KC x0 x1 x2 x3 x4 q0 q1 q2 q3 q4
      have z0 := HR9.out.cell (show 0 < 5 by decide)
      have z1 := HR9.out.cell (show 1 < 5 by decide)
      have z2 := HR9.out.cell (show 2 < 5 by decide)
      have z3 := HR9.out.cell (show 3 < 5 by decide)
      have z4 := HR9.out.cell (show 4 < 5 by decide)
      have g0 := HR9.out.frozen 0
      have g1 := HR9.out.frozen 1
      have g2 := HR9.out.frozen 2
      have g3 := HR9.out.frozen 3
      have g4 := HR9.out.frozen 4
      simp only [hdAt, Hd.cells, List.getD_cons_succ, List.getD_cons_zero] at z0 z1 z2 z3 z4
      go_wp2_with fail
      refine bodyPost_ret (v := .tuple #[.agg #[.int .i64 h8.k, .int .i64 h8.n, .string h8.s, .slice h8.A h8.la h8.lc, .slice h8.F h8.lf h8.fc], .int .i64 er]) (by simp [results, Try.results57, go_sem, z0, z1, z2, z3, z4]; try rfl) rfl ?_
      refine ⟨b8, h8, er, rfl, res_below HB9.out (Nat.le_succ _), ?_, ?_⟩
      · refine Lies.keep (fun q hq _ => World.cell?_of_block (res_set (w := w) _ (fun e => ?_))) (fun _ _ _ => trivial) _ _ HL9.out
        rw [e] at hq
        have := HSO.out
        rcases hq with ⟨hq | hq, _⟩ | hq <;> omega
      · rcases HO9.out with ⟨h1, h2, h3⟩ | ⟨h1, h2, h3⟩
        · exact .inr (.inr (.inr (.inl ⟨_, HYES.out.1, HYES.out.2, rfl, h1, h2, h3⟩)))
        · exact .inr (.inr (.inr (.inr ⟨_, HYES.out.1, HYES.out.2, rfl, h1, h2, h3⟩)))
end Go.Proofs.Ytmdlcalnncncjaa
