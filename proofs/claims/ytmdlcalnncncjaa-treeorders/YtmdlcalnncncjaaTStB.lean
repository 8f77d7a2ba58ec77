/- slices.swapRange and rotate, of pairs. -/
import Derived.Test.YtmdlcalnncncjaaTStP
import Derived.Test.YtmdlcalnncncjaaTInsNil
import Derived.Test.YtmdlcalnncncjaaTProgC
import Derived.Deep.RegionHeld3
import Derived.BigRegion
set_option linter.unusedVariables false
set_option linter.unusedSimpArgs false
namespace Go.Proofs.Ytmdlcalnncncjaa
open Go.RowKit
/-- A pair that is sorted: its key, its header, the value, its blocks, and its old place. -/
structure Eo where
  key : ByteArray
  u : Hd
  x : Va
  T : Nat → Prop
  ix : Nat
instance : Inhabited Eo := ⟨⟨ByteArray.empty, ⟨0, 0, ByteArray.empty, none, 0, 0, none, 0, 0⟩, .mk 0 0 ByteArray.empty [] [] [], fun _ => False, 0⟩⟩
/-- The row of pairs in block B, and all else as it was. -/
structure Sw (w0 : World) (B : Nat) (d : Array Eo) (wr : World) : Prop where
  kp : Kp B w0 wr
  at_ : ∀ i, i < d.size → At6 wr ⟨B, i * 6, none⟩ d[i]!.key d[i]!.u
  frz : ∀ o, wr.frozen? ⟨B, o, none⟩ = false
  lt : B < w0.heap.size
  key : ∀ i, i < d.size → d[i]!.key.size ≤ maxLen
theorem Sw.go {w0 wr w' : World} {B : Nat} {d : Array Eo} (H : Sw w0 B d wr) (hb : Below wr.heap.size wr w') : Sw w0 B d w' := by
  have h1 := H.kp.size
  have h2 := H.lt
  exact ⟨H.kp.trans (Kp.of_below hb (by omega)), fun i hi => (H.at_ i hi).below hb (by show B < _; omega), fun o => (hb.frozen (p := ⟨B, o, none⟩) (by show B < _; omega)).trans (H.frz o), h2, H.key⟩
/-- A pair's six cells, written. -/
def put6 (w : World) (B o : Nat) (k : ByteArray) (u : Hd) : World := ((((((w.setCell ⟨B, o, none⟩ (.string k)).setCell ⟨B, o + 1, none⟩ (.int .i64 u.k)).setCell ⟨B, o + 2, none⟩ (.int .i64 u.n)).setCell ⟨B, o + 3, none⟩ (.string u.s)).setCell ⟨B, o + 4, none⟩ (.slice u.A u.la u.lc)).setCell ⟨B, o + 5, none⟩ (.slice u.F u.lf u.fc))
theorem put6_blk {w : World} {B o : Nat} {k : ByteArray} {u : Hd} {b : Nat} (h : b ≠ B) : (put6 w B o k u).heap[b]? = w.heap[b]? := by
  unfold put6
  rw [Below.heap_setCell _ _ _ _ h, Below.heap_setCell _ _ _ _ h, Below.heap_setCell _ _ _ _ h, Below.heap_setCell _ _ _ _ h, Below.heap_setCell _ _ _ _ h, Below.heap_setCell _ _ _ _ h]
theorem put6_other {w : World} {B o p : Nat} {k : ByteArray} {u : Hd} (h : p < o ∨ o + 5 < p) : (put6 w B o k u).cell? ⟨B, p, none⟩ = w.cell? ⟨B, p, none⟩ := by
  have hne : ∀ q, q ≤ 5 → (⟨B, o + q, none⟩ : Addr) ≠ ⟨B, p, none⟩ := fun q h2 e => by
    injection e with _ e2
    omega
  have h0 := hne 0 (by omega)
  rw [Nat.add_zero] at h0
  unfold put6
  rw [World.cell?_setCell_other _ _ _ _ (hne 5 (by omega)), World.cell?_setCell_other _ _ _ _ (hne 4 (by omega)), World.cell?_setCell_other _ _ _ _ (hne 3 (by omega)), World.cell?_setCell_other _ _ _ _ (hne 2 (by omega)), World.cell?_setCell_other _ _ _ _ (hne 1 (by omega)), World.cell?_setCell_other _ _ _ _ h0]
theorem put6_frz {w : World} {B o : Nat} {k : ByteArray} {u : Hd} (a : Addr) : (put6 w B o k u).frozen? a = w.frozen? a := by
  unfold put6
  rw [World.frozen?_setCell, World.frozen?_setCell, World.frozen?_setCell, World.frozen?_setCell, World.frozen?_setCell, World.frozen?_setCell]
theorem At6.put {w : World} {B o : Nat} {k k0 : ByteArray} {u u0 : Hd} (h : At6 w ⟨B, o, none⟩ k0 u0) : At6 (put6 w B o k u) ⟨B, o, none⟩ k u := by
  obtain ⟨h0, h1, h2, h3, h4, h5⟩ := h
  simp only at h0 h1 h2 h3 h4 h5
  unfold put6 At6
  refine ⟨?_, ?_, ?_, ?_, ?_, ?_⟩
  · rw [World.cell?_setCell_other _ _ _ _ (by simp), World.cell?_setCell_other _ _ _ _ (by simp), World.cell?_setCell_other _ _ _ _ (by simp), World.cell?_setCell_other _ _ _ _ (by simp), World.cell?_setCell_other _ _ _ _ (by simp)]
    exact World.cell?_setCell_same _ _ _ h0
  · rw [World.cell?_setCell_other _ _ _ _ (by simp), World.cell?_setCell_other _ _ _ _ (by simp), World.cell?_setCell_other _ _ _ _ (by simp), World.cell?_setCell_other _ _ _ _ (by simp)]
    exact World.cell?_setCell_same _ _ _ (by rw [World.cell?_setCell_other _ _ _ _ (by simp)]; exact h1)
  · rw [World.cell?_setCell_other _ _ _ _ (by simp), World.cell?_setCell_other _ _ _ _ (by simp), World.cell?_setCell_other _ _ _ _ (by simp)]
    exact World.cell?_setCell_same _ _ _ (by rw [World.cell?_setCell_other _ _ _ _ (by simp), World.cell?_setCell_other _ _ _ _ (by simp)]; exact h2)
  · rw [World.cell?_setCell_other _ _ _ _ (by simp), World.cell?_setCell_other _ _ _ _ (by simp)]
    exact World.cell?_setCell_same _ _ _ (by rw [World.cell?_setCell_other _ _ _ _ (by simp), World.cell?_setCell_other _ _ _ _ (by simp), World.cell?_setCell_other _ _ _ _ (by simp)]; exact h3)
  · rw [World.cell?_setCell_other _ _ _ _ (by simp)]
    exact World.cell?_setCell_same _ _ _ (by rw [World.cell?_setCell_other _ _ _ _ (by simp), World.cell?_setCell_other _ _ _ _ (by simp), World.cell?_setCell_other _ _ _ _ (by simp), World.cell?_setCell_other _ _ _ _ (by simp)]; exact h4)
  · exact World.cell?_setCell_same _ _ _ (by rw [World.cell?_setCell_other _ _ _ _ (by simp), World.cell?_setCell_other _ _ _ _ (by simp), World.cell?_setCell_other _ _ _ _ (by simp), World.cell?_setCell_other _ _ _ _ (by simp), World.cell?_setCell_other _ _ _ _ (by simp)]; exact h5)
theorem At6.put_other {w : World} {B o p : Nat} {k k0 : ByteArray} {u u0 : Hd} (h : At6 w ⟨B, p, none⟩ k0 u0) (hp : p + 5 < o ∨ o + 5 < p) : At6 (put6 w B o k u) ⟨B, p, none⟩ k0 u0 := by
  obtain ⟨h0, h1, h2, h3, h4, h5⟩ := h
  simp only at h0 h1 h2 h3 h4 h5
  exact ⟨(put6_other (by omega)).trans h0, (put6_other (p := p + 1) (by omega)).trans h1, (put6_other (p := p + 2) (by omega)).trans h2, (put6_other (p := p + 3) (by omega)).trans h3, (put6_other (p := p + 4) (by omega)).trans h4, (put6_other (p := p + 5) (by omega)).trans h5⟩
theorem Kp.put6 {w0 w : World} {B o : Nat} {k : ByteArray} {u : Hd} (h : Kp B w0 w) : Kp B w0 (put6 w B o k u) := (((((h.setN _).setN _).setN _).setN _).setN _).setN _
/-- Two pairs exchanged. -/
theorem Sw.swap0 {w0 wr : World} {B p q : Nat} {d : Array Eo} {k1 k2 : ByteArray} {u1 u2 : Hd} (H : Sw w0 B d wr) (hp : p < d.size) (hq : q < d.size) (hpq : p ≠ q) (he : k1 = d[p]!.key ∧ u1 = d[p]!.u ∧ k2 = d[q]!.key ∧ u2 = d[q]!.u) :
    Sw w0 B (Go.Sort.swp d p q) (Proofs.Ytmdlcalnncncjaa.put6 (Proofs.Ytmdlcalnncncjaa.put6 wr B (p * 6) k2 u2) B (q * 6) k1 u1) := by
  obtain ⟨e1, e2, e3, e4⟩ := he
  have h1 := H.kp
  have h2 := H.frz
  have h3 := H.lt
  have h := H.at_
  have h4 := H.key
  clear H
  refine ⟨h1.put6.put6, fun i hi => ?_, fun o => by rw [put6_frz, put6_frz]; exact h2 o, h3, fun i hi => ?_⟩
  rotate_left
  · rw [Go.Sort.size_swp] at hi
    by_cases a1 : i = q
    · subst a1; rw [Go.Sort.swp_right _ _ _ hq]; exact h4 p hp
    · by_cases a2 : i = p
      · subst a2; rw [Go.Sort.swp_left _ _ _ hp hpq]; exact h4 q hq
      · rw [Go.Sort.swp_other _ _ _ _ a2 a1]; exact h4 i hi
  rw [Go.Sort.size_swp] at hi
  have h := h i hi
  by_cases a1 : i = q
  · subst a1
    rw [Go.Sort.swp_right _ _ _ hq, ← e1, ← e2]
    exact At6.put (At6.put_other h (by omega))
  · by_cases a2 : i = p
    · subst a2
      rw [Go.Sort.swp_left _ _ _ hp hpq, ← e3, ← e4]
      exact At6.put_other (At6.put h) (by omega)
    · rw [Go.Sort.swp_other _ _ _ _ a2 a1]
      exact At6.put_other (At6.put_other h (by omega)) (by omega)
theorem Sw.swap {w0 wr : World} {B p q : Nat} {d : Array Eo} {k1 k2 : ByteArray} {u1 u2 : Hd} (H : Sw w0 B d wr) (hp : p < d.size) (hq : q < d.size) (hpq : p ≠ q) (he : k1 = d[p]!.key ∧ u1 = d[p]!.u ∧ k2 = d[q]!.key ∧ u2 = d[q]!.u) :
    Sw w0 B (Go.Sort.swp d p q) (Proofs.Ytmdlcalnncncjaa.put6 (Proofs.Ytmdlcalnncncjaa.put6 wr B (p * 6) k2 u2) B (q * 6) k1 u1).drew := (H.swap0 hp hq hpq he).go ((Below.refl _ _).drew)
set_option maxHeartbeats 2000000 in
set_option maxRecDepth 100000 in
theorem swapRange_any (w0 : World) (B N c a b n : Nat) (cv : Value) (d : Array Eo) (w : World) (H : Sw w0 B d w) (hN : N = d.size) (h1 : N ≤ 1000) (h2 : a + n ≤ b) (h3 : b + n ≤ N) :
    Calls Try.prog 145 #[.slice (some ⟨B, 0, none⟩) N c, .int .i64 a, .int .i64 b, .int .i64 n, cv] w fun e w' => e = .returned (.tuple #[]) ∧ ∃ d', Sw w0 B d' w' ∧ St.Swd d d' a b n ∧ Go.Sort.PermIn a (b + n) d d' := by
  have HN := Lib.hid hN
  have HH := Lib.hid H
  clear H hN
  go_enter Try.func145, Try.ntmps145
  go_wp2_with fail
  go_loopw [10] (fun iv wr => ∃ (i : Nat) (d' : Array Eo), iv = .int .i64 i ∧ i ≤ n ∧ Sw w0 B d' wr ∧ St.Swd d d' a b i ∧ Go.Sort.PermIn a (b + n) d d') (fun iv _ => n - (intOf iv).toNat)
  case atStart => exact ⟨0, d, rfl, Nat.zero_le _, HH.out, St.Swd.zero _ _ _, Go.Sort.permIn_refl _ _ _⟩
  case round =>
    obtain ⟨i, d', rfl, hi, hS, hD, hP⟩ := hrel
    have HS := Lib.hid hS
    have HD := Lib.hid hD
    have HP := Lib.hid hP
    have HSZ : Hid (N = d'.size) := Lib.hid (by rw [hD.1]; exact HN.out)
    clear hD hP
    by_cases hlt : i < n
    · obtain ⟨p, hp⟩ : ∃ p : Nat, p = a + i := ⟨_, rfl⟩
      obtain ⟨q, hq⟩ : ∃ q : Nat, q = b + i := ⟨_, rfl⟩
      have e1 : (a : Int) + (i : Int) = (p : Int) := by omega
      have e2 : (b : Int) + (i : Int) = (q : Int) := by omega
      have hpN : (p : Int) < (N : Int) := by omega
      have hqN : (q : Int) < (N : Int) := by omega
      obtain ⟨x0, x1, x2, x3, x4, x5⟩ := hS.at_ p (by have := HSZ.out; omega)
      obtain ⟨y0, y1, y2, y3, y4, y5⟩ := hS.at_ q (by have := HSZ.out; omega)
      obtain ⟨k1, hk1⟩ : ∃ k, k = d'[p]!.key := ⟨_, rfl⟩
      obtain ⟨u1, hu1⟩ : ∃ k, k = d'[p]!.u := ⟨_, rfl⟩
      obtain ⟨k2, hk2⟩ : ∃ k, k = d'[q]!.key := ⟨_, rfl⟩
      obtain ⟨u2, hu2⟩ : ∃ k, k = d'[q]!.u := ⟨_, rfl⟩
      rw [← hk1] at x0
      rw [← hu1] at x1 x2 x3 x4 x5
      rw [← hk2] at y0
      rw [← hu2] at y1 y2 y3 y4 y5
      have HE := Lib.hid (show k1 = d'[p]!.key ∧ u1 = d'[p]!.u ∧ k2 = d'[q]!.key ∧ u2 = d'[q]!.u from ⟨hk1, hu1, hk2, hu2⟩)
      clear hk1 hu1 hk2 hu2
      have HPQ := Lib.hid (show p = a + i ∧ q = b + i from ⟨hp, hq⟩)
      have hf := hS.frz
      clear hS hp hq
      go_wp2_with fail
      go_region
      have hs2 : Sw w0 B (Go.Sort.swp d' p q) ((((((((((((wr.setCell ⟨B, p * 6, none⟩ (.string k2)).setCell ⟨B, p * 6 + 1, none⟩ (.int .i64 u2.k)).setCell ⟨B, p * 6 + 2, none⟩ (.int .i64 u2.n)).setCell ⟨B, p * 6 + 3, none⟩ (.string u2.s)).setCell ⟨B, p * 6 + 4, none⟩ (.slice u2.A u2.la u2.lc)).setCell ⟨B, p * 6 + 5, none⟩ (.slice u2.F u2.lf u2.fc)).setCell ⟨B, q * 6, none⟩ (.string k1)).setCell ⟨B, q * 6 + 1, none⟩ (.int .i64 u1.k)).setCell ⟨B, q * 6 + 2, none⟩ (.int .i64 u1.n)).setCell ⟨B, q * 6 + 3, none⟩ (.string u1.s)).setCell ⟨B, q * 6 + 4, none⟩ (.slice u1.A u1.la u1.lc)).setCell ⟨B, q * 6 + 5, none⟩ (.slice u1.F u1.lf u1.fc)).drew := HS.out.swap (by have := HSZ.out; omega) (by have := HSZ.out; omega) (by have := HPQ.out; omega) HE.out
      generalize ((((((((((((wr.setCell ⟨B, p * 6, none⟩ (.string k2)).setCell ⟨B, p * 6 + 1, none⟩ (.int .i64 u2.k)).setCell ⟨B, p * 6 + 2, none⟩ (.int .i64 u2.n)).setCell ⟨B, p * 6 + 3, none⟩ (.string u2.s)).setCell ⟨B, p * 6 + 4, none⟩ (.slice u2.A u2.la u2.lc)).setCell ⟨B, p * 6 + 5, none⟩ (.slice u2.F u2.lf u2.fc)).setCell ⟨B, q * 6, none⟩ (.string k1)).setCell ⟨B, q * 6 + 1, none⟩ (.int .i64 u1.k)).setCell ⟨B, q * 6 + 2, none⟩ (.int .i64 u1.n)).setCell ⟨B, q * 6 + 3, none⟩ (.string u1.s)).setCell ⟨B, q * 6 + 4, none⟩ (.slice u1.A u1.la u1.lc)).setCell ⟨B, q * 6 + 5, none⟩ (.slice u1.F u1.lf u1.fc)).drew = w2 at hs2 ⊢
      have HS2 := Lib.hid hs2
      clear hs2
      go_wp2_with fail
      refine ⟨⟨i + 1, Go.Sort.swp d' p q, by go_num, by omega, HS2.out, ?_, ?_⟩, by simp [intOf]; omega⟩
      · rw [HPQ.out.1, HPQ.out.2]
        exact HD.out.step hlt h2 (by have := HN.out; omega)
      · refine Go.Sort.permIn_trans _ _ _ _ _ HP.out (Go.Sort.swp_permIn _ _ _ _ _ ?_ ?_ ?_ ?_ ?_)
        all_goals (have h8 := HPQ.out; have h9 := HSZ.out; omega)
    · obtain rfl : i = n := by omega
      go_wp2_with fail
      go_end0
      exact ⟨rfl, d', HS.out, HD.out, HP.out⟩
set_option maxHeartbeats 2000000 in
set_option maxRecDepth 100000 in
theorem rotate_any (w0 : World) (B N c a m b : Nat) (cv : Value) (d : Array Eo) (w : World) (H : Sw w0 B d w) (hN : N = d.size) (h1 : N ≤ 1000) (h2 : a < m) (h3 : m < b) (h4 : b ≤ N) :
    Calls Try.prog 137 #[.slice (some ⟨B, 0, none⟩) N c, .int .i64 a, .int .i64 m, .int .i64 b, cv] w fun e w' => e = .returned (.tuple #[]) ∧ ∃ d', Sw w0 B d' w' ∧ St.Rot d d' a m b ∧ Go.Sort.PermIn a b d d' := by
  have HN := Lib.hid hN
  have HH := Lib.hid H
  clear H hN
  go_enter Try.func137, Try.ntmps137
  go_wp2_with fail
  go_loopw [10, 11] (fun iv jv wr => ∃ (i j : Nat) (d' : Array Eo), iv = .int .i64 i ∧ jv = .int .i64 j ∧ i ≤ 1000 ∧ j ≤ 1000 ∧ Sw w0 B d' wr ∧ St.Win d d' a m b i j ∧ Go.Sort.PermIn a b d d') (fun iv jv _ => (intOf iv).toNat + (intOf jv).toNat)
  case atStart => exact ⟨m - a, b - m, d, by go_num, by go_num, by omega, by omega, HH.out, St.Win.start h2 h3, Go.Sort.permIn_refl _ _ _⟩
  case round =>
    obtain ⟨i, j, d', rfl, rfl, hi, hj, hS, hD, hP⟩ := hrel
    have HS := Lib.hid hS
    have HD := Lib.hid hD
    have HP := Lib.hid hP
    have HSZ : Hid (N = d'.size) := Lib.hid (by rw [hD.1]; exact HN.out)
    obtain ⟨-, b1, b2, b3, b4, b5, -⟩ := hD
    clear hS hP
    have em : (m : Int) - (i : Int) = ((m - i : Nat) : Int) := by omega
    obtain ⟨s, hs⟩ : ∃ s : Nat, s = m - i := ⟨_, rfl⟩
    rw [← hs] at em b1
    have HSS := Lib.hid hs
    by_cases hij : i = j
    · have hij' : ((i : Int) == (j : Int)) = true := by simp; omega
      have K := Lib.hid (swapRange_any w0 B N c s m i cv d' wr HS.out HSZ.out h1 (by omega) (by omega))
      have HIJ := Lib.hid hij
      clear hs hij
      go_wp2_with fail
      refine K.out.mono ?_
      rintro e w1 ⟨rfl, d2, hs2, hd2, hp2⟩
      have HS2 := Lib.hid hs2
      have HF : Hid (St.Rot d d2 a m b) := Lib.hid (by have h8 := HD.out; rw [← HIJ.out] at h8; exact h8.done (by rw [HSS.out] at hd2; exact hd2))
      have HP2 : Hid (Go.Sort.PermIn a b d d2) := Lib.hid (Go.Sort.permIn_trans _ _ _ _ _ HP.out (Go.Sort.permIn_mono _ _ _ _ _ _ (by omega) (by have := HIJ.out; omega) (by have := HSZ.out; omega) hp2))
      clear hs2 hd2 hp2 K
      go_wp2_with fail
      go_end0
      exact ⟨rfl, d2, HS2.out, HF.out, HP2.out⟩
    · have hij' : ((i : Int) == (j : Int)) = false := by simp; omega
      by_cases hgt : j < i
      · have K := Lib.hid (swapRange_any w0 B N c s m j cv d' wr HS.out HSZ.out h1 (by omega) (by omega))
        have ei : (i : Int) - (j : Int) = ((i - j : Nat) : Int) := by omega
        clear hs hij
        go_wp2_with fail
        refine K.out.mono ?_
        rintro e w1 ⟨rfl, d2, hs2, hd2, hp2⟩
        have HS2 := Lib.hid hs2
        have HF : Hid (St.Win d d2 a m b (i - j) j) := Lib.hid (HD.out.left hgt (by rw [HSS.out] at hd2; exact hd2))
        have HP2 : Hid (Go.Sort.PermIn a b d d2) := Lib.hid (Go.Sort.permIn_trans _ _ _ _ _ HP.out (Go.Sort.permIn_mono _ _ _ _ _ _ (by omega) (by omega) (by have := HSZ.out; omega) hp2))
        clear hs2 hd2 hp2 K
        go_wp2_with fail
        exact ⟨⟨i - j, j, d2, by go_num, rfl, by omega, hj, HS2.out, HF.out, HP2.out⟩, by simp [intOf]; omega⟩
      · obtain ⟨t, ht⟩ : ∃ t : Nat, t = m + j - i := ⟨_, rfl⟩
        have et : (m : Int) + (j : Int) - (i : Int) = (t : Int) := by omega
        have K := Lib.hid (swapRange_any w0 B N c s t i cv d' wr HS.out HSZ.out h1 (by omega) (by omega))
        have HT := Lib.hid ht
        have ej : (j : Int) - (i : Int) = ((j - i : Nat) : Int) := by omega
        have hlt2 : i < j := by omega
        clear hs hij ht
        go_wp2_with fail
        refine K.out.mono ?_
        rintro e w1 ⟨rfl, d2, hs2, hd2, hp2⟩
        have HS2 := Lib.hid hs2
        have HF : Hid (St.Win d d2 a m b i (j - i)) := Lib.hid (HD.out.right hlt2 (by rw [HSS.out, HT.out] at hd2; exact hd2))
        have HP2 : Hid (Go.Sort.PermIn a b d d2) := Lib.hid (Go.Sort.permIn_trans _ _ _ _ _ HP.out (Go.Sort.permIn_mono _ _ _ _ _ _ (by omega) (by have := HT.out; omega) (by have := HSZ.out; omega) hp2))
        clear hs2 hd2 hp2 K
        go_wp2_with fail
        exact ⟨⟨i, j - i, d2, rfl, by go_num, hi, by omega, HS2.out, HF.out, HP2.out⟩, by simp [intOf]; omega⟩
end Go.Proofs.Ytmdlcalnncncjaa
