/- tree.Same, walked. -/
import Derived.Test.YtlhmdbloddpfbaaTGet
set_option linter.unusedVariables false
set_option linter.unusedSimpArgs false
namespace Go.Proofs.Ytlhmdbloddpfbaa
open Go.RowKit
abbrev closS (C : Nat) : Value := .func (.func 55) #[] #[.pointer (some ⟨C, 0, none⟩)]
theorem twoA (wr : World) (o1 o2 : Obj) : Below wr.heap.size wr ((wr.alloc o1).alloc o2) := ((Below.refl _ _).alloc (Nat.le_refl _) _).alloc (by simp) _
/-- Elements to be read. -/
def RowV (w : World) (S : Nat → Prop) (A : Option Addr) (l : List Va) : Prop := ∀ (i : Nat) x, l[i]? = some x → ∃ ad u, A = some ad ∧ S ad.block ∧ (ad.add (i * 5)).block < w.heap.size ∧ Lies w S x u ∧ At5 w (ad.add (i * 5)) u
theorem RowV.below {w w' : World} {S : Nat → Prop} {A : Option Addr} {l : List Va} (H : RowV w S A l) (hb : Below w.heap.size w w') : RowV w' S A l := fun i x hx => by
  obtain ⟨ad, u, e, hs, h1, h2, h3⟩ := H i x hx
  exact ⟨ad, u, e, hs, Nat.lt_of_lt_of_le h1 hb.size, h2.below hb (Nat.le_refl _), h3.below hb h1⟩
/-- Pairs to be read. -/
def RowP (w : World) (S : Nat → Prop) (F : Option Addr) (ks : List ByteArray) (f : List Va) : Prop := ∀ (i : Nat) x, f[i]? = some x → ∃ ad u key, F = some ad ∧ S ad.block ∧ (ad.add (i * 6)).block < w.heap.size ∧ ks[i]? = some key ∧ key.size ≤ maxLen ∧ Lies w S x u ∧ At6 w (ad.add (i * 6)) key u
theorem RowP.below {w w' : World} {S : Nat → Prop} {F : Option Addr} {ks : List ByteArray} {f : List Va} (H : RowP w S F ks f) (hb : Below w.heap.size w w') : RowP w' S F ks f := fun i x hx => by
  obtain ⟨ad, u, key, e, hs, h1, hk, hm, h2, h3⟩ := H i x hx
  exact ⟨ad, u, key, e, hs, Nat.lt_of_lt_of_le h1 hb.size, hk, hm, h2.below hb (Nat.le_refl _), h3.below hb h1⟩
/-- The closure's contract for two values. -/
def SameC (C : Nat) (x y : Va) : Prop := ∀ (S S' : Nat → Prop) (u u' : Hd) (w : World), Lies w S x u → Lies w S' y u' → w.cell? ⟨C, 0, none⟩ = some (closS C) → Calls Try.prog 55 #[u.val, u'.val, .pointer (some ⟨C, 0, none⟩)] w fun e w' => SameR x y w e w'
set_option maxHeartbeats 1000000 in
set_option maxRecDepth 100000 in
theorem eqv_any (l l' : List Va) (S S' : Nat → Prop) (A A' : Option Addr) (c c' C : Nat) (w : World) (hl : l.length ≤ 1000) (HA : RowV w S A l) (HA' : RowV w S' A' l') (hc : w.cell? ⟨C, 0, none⟩ = some (closS C)) (HC : ∀ (i : Nat) x y, l[i]? = some x → l'[i]? = some y → SameC C x y) :
    Calls Try.prog 56 #[.slice A l.length c, .slice A' l'.length c', closS C] w fun e w' => YesNo (l = l') w e w' := by
  have hC : C < w.heap.size := World.block_lt_of_cell? w _ hc
  by_cases hll : l.length = l'.length
  case neg =>
    have hne : ((l.length : Int) != (l'.length : Int)) = true := by simp; omega
    have HLL := Lib.hid hll
    clear hll
    go_enter Try.func56, Try.ntmps56
    go_wp2_with fail
    go_ret
    exact YesNo.no (fun e => HLL.out (by rw [e])) (Below.refl _ _)
  rw [← hll]
  have HLL := Lib.hid hll
  clear hll
  go_enter Try.func56, Try.ntmps56
  go_wp2_with fail
  go_loopw [17] (fun iv wr => ∃ i : Nat, iv = .int .i64 i ∧ i ≤ l.length ∧ EqTo l l' i ∧ Below w.heap.size w wr) (fun iv _ => l.length - (intOf iv).toNat)
  case atStart => exact ⟨0, rfl, Nat.zero_le _, by simp [EqTo], Below.refl _ _⟩
  case round =>
    obtain ⟨i, rfl, hi, heq, hbel⟩ := hrel
    have HQ := Lib.hid heq
    have HB := Lib.hid hbel
    have hcr : wr.cell? ⟨C, 0, none⟩ = some (closS C) := (hbel.cell (p := ⟨C, 0, none⟩) hC).trans hc
    have HCR := Lib.hid hcr
    clear heq hbel hcr
    by_cases hlt : i < l.length
    · have hlt' : i < l'.length := by have := HLL.out; omega
      obtain ⟨ad, u, rfl, _, hbl, hLu, hcell⟩ := (HA.below HB.out) i _ (List.getElem?_eq_getElem hlt)
      obtain ⟨k0, k1, k2, k3, k4⟩ := hcell
      obtain ⟨ad', u', rfl, _, hbl', hLu', hcell'⟩ := (HA'.below HB.out) i _ (List.getElem?_eq_getElem hlt')
      obtain ⟨q0, q1, q2, q3, q4⟩ := hcell'
      have HLu := Lib.hid hLu
      have HLu' := Lib.hid hLu'
      have G1 := Lib.hid (List.getElem?_eq_getElem hlt)
      have G2 := Lib.hid (List.getElem?_eq_getElem hlt')
      have HCX := Lib.hid (HC i _ _ (List.getElem?_eq_getElem hlt) (List.getElem?_eq_getElem hlt'))
      clear hLu hLu'
      go_wp2_with fail
      refine (HCX.out S S' u u' _ (HLu.out.below (twoA wr _ _) (Nat.le_refl _)) (HLu'.out.below (twoA wr _ _) (Nat.le_refl _)) (((twoA wr _ _).cell (p := ⟨C, 0, none⟩) (World.block_lt_of_cell? wr _ HCR.out)).trans HCR.out)).mono ?_
      rintro e w1 ⟨r, rfl, hr, hb1⟩
      have HR := Lib.hid hr
      have HB1 := Lib.hid (HB.out.trans (((twoA wr _ _).trans (hb1.mono (twoA wr _ _).size)).mono HB.out.size))
      clear hr hb1
      cases r
      · go_wp2_with fail
        go_ret
        exact YesNo.no (fun e => ne_at G1.out G2.out (fun h => by have := HR.out.2 h; cases this) e) HB1.out
      · have hee : l[i] = l'[i] := HR.out.1 rfl
        have HQ2 := Lib.hid (HQ.out.step G1.out (hee ▸ G2.out))
        clear hee
        go_wp2_with fail
        exact ⟨⟨i + 1, by go_num, by omega, HQ2.out, HB1.out⟩, by simp [intOf]; omega⟩
    · have hall : Hid (l = l') := HQ.out.all (by omega) (by have := HLL.out; omega)
      go_wp2_with fail
      go_ret
      exact YesNo.yes hall.out HB.out
set_option maxHeartbeats 1000000 in
theorem pair1_any (key key' : ByteArray) (x y : Va) (S S' : Nat → Prop) (u u' : Hd) (C : Nat) (w : World) (H : Lies w S x u) (H' : Lies w S' y u') (hc : w.cell? ⟨C, 0, none⟩ = some (closS C)) (HC : SameC C x y) :
    Calls Try.prog 58 #[.agg #[.string key, .int .i64 u.k, .int .i64 u.n, .string u.s, .slice u.A u.la u.lc, .slice u.F u.lf u.fc], .agg #[.string key', .int .i64 u'.k, .int .i64 u'.n, .string u'.s, .slice u'.A u'.la u'.lc, .slice u'.F u'.lf u'.fc], .pointer (some ⟨C, 0, none⟩)] w fun e w' => YesNo (key = key' ∧ x = y) w e w' := by
  have hC : C < w.heap.size := World.block_lt_of_cell? w _ hc
  have HH := Lib.hid H
  have HH' := Lib.hid H'
  have HCC := Lib.hid HC
  clear H H' HC
  by_cases hkk : key = key'
  · have hkk' := bytes_eq hkk
    have HKK := Lib.hid hkk
    clear hkk
    go_enter Try.func58, Try.ntmps58
    go_wp2_with fail
    refine (HCC.out S S' u u' _ (HH.out.below (twoA w _ _) (Nat.le_refl _)) (HH'.out.below (twoA w _ _) (Nat.le_refl _)) (((twoA w _ _).cell (p := ⟨C, 0, none⟩) hC).trans hc)).mono ?_
    rintro e w1 ⟨r, rfl, hr, hb1⟩
    have HR := Lib.hid hr
    have HB1 := Lib.hid ((twoA w _ _).trans (hb1.mono (twoA w _ _).size))
    clear hr hb1
    go_wp2_with fail
    go_ret
    exact ⟨r, rfl, ⟨fun h => ⟨HKK.out, HR.out.1 h⟩, fun h => HR.out.2 h.2⟩, HB1.out⟩
  · have hkk' := bytes_ne hkk
    have HKK := Lib.hid hkk
    clear hkk
    go_enter Try.func58, Try.ntmps58
    go_wp2_with fail
    go_ret
    exact YesNo.no (fun h => HKK.out h.1) (twoA w _ _)
set_option maxHeartbeats 1000000 in
set_option maxRecDepth 100000 in
theorem eqp_any (ks ks' : List ByteArray) (f f' : List Va) (S S' : Nat → Prop) (F F' : Option Addr) (c c' C : Nat) (w : World) (hl : f.length ≤ 1000) (hk : ks.length = f.length) (hk' : ks'.length = f'.length) (HA : RowP w S F ks f) (HA' : RowP w S' F' ks' f') (hc : w.cell? ⟨C, 0, none⟩ = some (closS C)) (HC : ∀ (i : Nat) x y, f[i]? = some x → f'[i]? = some y → SameC C x y) :
    Calls Try.prog 57 #[.slice F f.length c, .slice F' f'.length c', .func (.func 58) #[] #[.pointer (some ⟨C, 0, none⟩)]] w fun e w' => YesNo (ks = ks' ∧ f = f') w e w' := by
  have hC : C < w.heap.size := World.block_lt_of_cell? w _ hc
  have HK := Lib.hid hk
  have HK' := Lib.hid hk'
  clear hk hk'
  by_cases hll : f.length = f'.length
  case neg =>
    have hne : ((f.length : Int) != (f'.length : Int)) = true := by simp; omega
    have HLL := Lib.hid hll
    clear hll
    go_enter Try.func57, Try.ntmps57
    go_wp2_with fail
    go_ret
    exact YesNo.no (fun e => HLL.out (by rw [e.2])) (Below.refl _ _)
  rw [← hll]
  have HLL := Lib.hid hll
  clear hll
  go_enter Try.func57, Try.ntmps57
  go_wp2_with fail
  go_loopw [17] (fun iv wr => ∃ i : Nat, iv = .int .i64 i ∧ i ≤ f.length ∧ EqTo ks ks' i ∧ EqTo f f' i ∧ Below w.heap.size w wr) (fun iv _ => f.length - (intOf iv).toNat)
  case atStart => exact ⟨0, rfl, Nat.zero_le _, by simp [EqTo], by simp [EqTo], Below.refl _ _⟩
  case round =>
    obtain ⟨i, rfl, hi, heqk, heq, hbel⟩ := hrel
    have HQ := Lib.hid heq
    have HQK := Lib.hid heqk
    have HB := Lib.hid hbel
    have hcr : wr.cell? ⟨C, 0, none⟩ = some (closS C) := (hbel.cell (p := ⟨C, 0, none⟩) hC).trans hc
    have HCR := Lib.hid hcr
    clear heq heqk hbel hcr
    by_cases hlt : i < f.length
    · have hlt' : i < f'.length := by have := HLL.out; omega
      obtain ⟨ad, u, key, rfl, _, hbl, hk, _, hLu, hcell⟩ := (HA.below HB.out) i _ (List.getElem?_eq_getElem hlt)
      obtain ⟨k0, k1, k2, k3, k4, k5⟩ := hcell
      obtain ⟨ad', u', key', rfl, _, hbl', hk', _, hLu', hcell'⟩ := (HA'.below HB.out) i _ (List.getElem?_eq_getElem hlt')
      obtain ⟨q0, q1, q2, q3, q4, q5⟩ := hcell'
      have HLu := Lib.hid hLu
      have HLu' := Lib.hid hLu'
      have GK := Lib.hid hk
      have GK' := Lib.hid hk'
      have G1 := Lib.hid (List.getElem?_eq_getElem hlt)
      have G2 := Lib.hid (List.getElem?_eq_getElem hlt')
      have HCX := Lib.hid (HC i _ _ (List.getElem?_eq_getElem hlt) (List.getElem?_eq_getElem hlt'))
      clear hLu hLu' hk hk'
      go_wp2_with fail
      refine (pair1_any key key' _ _ S S' u u' C _ (HLu.out.below (twoA wr _ _) (Nat.le_refl _)) (HLu'.out.below (twoA wr _ _) (Nat.le_refl _)) (((twoA wr _ _).cell (p := ⟨C, 0, none⟩) (World.block_lt_of_cell? wr _ HCR.out)).trans HCR.out) HCX.out).mono ?_
      rintro e w1 ⟨r, rfl, hr, hb1⟩
      have HR := Lib.hid hr
      have HB1 := Lib.hid (HB.out.trans (((twoA wr _ _).trans (hb1.mono (twoA wr _ _).size)).mono HB.out.size))
      clear hr hb1
      cases r
      · go_wp2_with fail
        go_ret
        refine YesNo.no (fun e => ?_) HB1.out
        have h1 : ¬ (key = key' ∧ f[i] = f'[i]) := fun h => by have := HR.out.2 h; cases this
        obtain ⟨e1, e2⟩ := e
        subst e1 e2
        exact h1 ⟨Option.some.inj (GK.out.symm.trans GK'.out), rfl⟩
      · have hee := HR.out.1 (by first | rfl | trivial)
        have HQ2 := Lib.hid (HQ.out.step G1.out (hee.2 ▸ G2.out))
        have HQK2 := Lib.hid (HQK.out.step GK.out (hee.1 ▸ GK'.out))
        clear hee
        go_wp2_with fail
        exact ⟨⟨i + 1, by go_num, by omega, HQK2.out, HQ2.out, HB1.out⟩, by simp [intOf]; omega⟩
    · have hall : Hid (ks = ks' ∧ f = f') := ⟨HQK.out.all (by have := HK.out; omega) (by have := HK'.out; have := HLL.out; omega), HQ.out.all (by omega) (by have := HLL.out; omega)⟩
      go_wp2_with fail
      go_ret
      exact YesNo.yes hall.out HB.out
end Go.Proofs.Ytlhmdbloddpfbaa
