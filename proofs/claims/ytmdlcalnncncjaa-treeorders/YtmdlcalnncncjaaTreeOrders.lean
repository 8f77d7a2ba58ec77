/- 'cascadelaw03.TreeOrders' returns true at every input, and leaves it as it was: tree.Ordered tells of all objects and keys what the document's own answer tells, or the error; what it tells is alike what it was, and ordered again it is the same. No condition. -/
import Derived.Test.YtmdlcalnncncjaaRows
import Derived.Test.YtmdlcalnncncjaaJoined2TreeOrders
import Derived.Test.YtmdlcalnncncjaaJoined1TreeOrders
import Derived.Test.YtmdlcalnncncjaaTOpen
import Derived.ProofKit
import Derived.Deep.RegionHeld3
import Derived.OpenShut
import Derived.ShutString
import Derived.ChangeOld
set_option linter.unusedVariables false
set_option linter.unusedSimpArgs false
namespace Go.Proofs.Ytmdlcalnncncjaa.treeOrders
open Go.ChangeShapes Go.WideShapes Go.ChangeAt Go.RowKit
open Go.ChangeMaps (open_string shut_string)
def ends (W : World) (e : Ending) (w' : World) : Prop := e = .returned (.bool true) ∧ Below W.heap.size W w'
/-- The value's box. -/
structure B1 (W : World) (h : Hd) (wr : World) : Prop where
  bel : Below W.heap.size W wr
  bv : Bx wr W.heap.size h
theorem B1.go {W wr w' : World} {h : Hd} (H : B1 W h wr) (hb : Below wr.heap.size wr w') : B1 W h w' := ⟨bel2 H.bel hb, H.bv.go hb H.bv.1⟩
/-- What the last statement loads of the three boxes. -/
abbrev S15 (N : Nat) (h : Hd) (M : Nat) (hw : Hd) (O : Nat) (hx : Hd) (w' : World) : Prop := w'.cell? ⟨N, 0, none⟩ = some (.int .i64 h.k) ∧ w'.cell? ⟨N, 1, none⟩ = some (.int .i64 h.n) ∧ w'.cell? ⟨N, 2, none⟩ = some (.string h.s) ∧ w'.cell? ⟨N, 3, none⟩ = some (.slice h.A h.la h.lc) ∧ w'.cell? ⟨N, 4, none⟩ = some (.slice h.F h.lf h.fc) ∧ w'.cell? ⟨M, 0, none⟩ = some (.int .i64 hw.k) ∧ w'.cell? ⟨M, 1, none⟩ = some (.int .i64 hw.n) ∧ w'.cell? ⟨M, 2, none⟩ = some (.string hw.s) ∧ w'.cell? ⟨M, 3, none⟩ = some (.slice hw.A hw.la hw.lc) ∧ w'.cell? ⟨M, 4, none⟩ = some (.slice hw.F hw.lf hw.fc) ∧ w'.cell? ⟨O, 0, none⟩ = some (.int .i64 hx.k) ∧ w'.cell? ⟨O, 1, none⟩ = some (.int .i64 hx.n) ∧ w'.cell? ⟨O, 2, none⟩ = some (.string hx.s) ∧ w'.cell? ⟨O, 3, none⟩ = some (.slice hx.A hx.la hx.lc) ∧ w'.cell? ⟨O, 4, none⟩ = some (.slice hx.F hx.lf hx.fc)
theorem S15.of {w : World} {N M O : Nat} {h hw hx : Hd} (H : Bx w N h) (K : Bx w M hw) (L : Bx w O hx) : S15 N h M hw O hx w := ⟨H.2 0 _ rfl, H.2 1 _ rfl, H.2 2 _ rfl, H.2 3 _ rfl, H.2 4 _ rfl, K.2 0 _ rfl, K.2 1 _ rfl, K.2 2 _ rfl, K.2 3 _ rfl, K.2 4 _ rfl, L.2 0 _ rfl, L.2 1 _ rfl, L.2 2 _ rfl, L.2 3 _ rfl, L.2 4 _ rfl⟩
set_option maxHeartbeats 16000000 in
set_option maxRecDepth 100000 in
theorem walk (W : World) (a : Va) (h : Hd) (H : Lies W (fun _ => True) a h) (K : Option Addr) (n kc : Nat) (keys : List ByteArray) (hs : IsStrs W K n keys) : Calls Try.prog 7 #[h.val, .slice K n kc] W fun e w' => e = .returned (.bool true) ∧ Below W.heap.size W w' := by
  show Calls Try.prog 7 #[h.val, .slice K n kc] W (ends W)
  obtain ⟨hK, hkm, hkz⟩ := hs
  obtain rfl : n = keys.length := by have := hK.1; simpa using this.symm
  have HK := Lib.hid hK
  have HKZ := Lib.hid hkz
  obtain ⟨k, nn, s, l, ks, f⟩ := a
  have HH := Lib.hid H
  simp only [Lies] at H
  obtain ⟨⟨e1, e2, e3, e4, e5, e6⟩, -, -, -⟩ := H
  have E1 := Lib.hid e1
  have E6 := Lib.hid e6
  have hB0 : B1 W h (W.alloc (Obj.cells #[.int .i64 h.k, .int .i64 h.n, .string h.s, .slice h.A h.la h.lc, .slice h.F h.lf h.fc] 25)) := ⟨one_alloc _ _, Bx.start W h 25⟩
  have HB0 := Lib.hid hB0
  have K0 := Lib.hid (awake_any (W.alloc (Obj.cells #[.int .i64 h.k, .int .i64 h.n, .string h.s, .slice h.A h.la h.lc, .slice h.F h.lf h.fc] 25)))
  clear e1 e2 e3 e4 e5 e6 hK hkz hB0
  unfold Hd.val at *
  go_enter Try.func7, Try.ntmps7
  go_wp2_with fail
  refine K0.out.mono ?_
  rintro e w1 ⟨rfl, hbn⟩
  have HB2 := Lib.hid (HB0.out.go hbn)
  clear hbn HB0 K0
  have q0 := HB2.out.bv.2 0 _ rfl
  have q1 := HB2.out.bv.2 1 _ rfl
  have q2 := HB2.out.bv.2 2 _ rfl
  have q3 := HB2.out.bv.2 3 _ rfl
  have q4 := HB2.out.bv.2 4 _ rfl
  go_wp2_with fail
  refine (few_ref (.mk k nn s l ks f) _ h w1 (HH.out.below HB2.out.bel (Nat.le_refl _))).mono ?_
  rintro e w2 ⟨r, rfl, hr, hbn⟩
  have HB := Lib.hid (HB2.out.go hbn)
  have HR := Lib.hid hr
  clear hr hbn HB2 q0 q1 q2 q3 q4
  cases r
  · go_wp2_with fail
    refine (awake_any w2).mono ?_
    rintro e wz ⟨rfl, hbz⟩
    go_wp2_with fail
    go_ret
    exact ⟨rfl, bel2 HB.out.bel hbz⟩
  obtain ⟨hsh, hcn⟩ := HR.out rfl
  have HSH := Lib.hid hsh
  have HCN := Lib.hid hcn
  have HB1 := HB
  clear hsh hcn HR HB
  go_wp2_with fail
  refine (few_keys keys K kc w2 hkm (HK.out.below HB1.out.bel (Nat.le_refl _))).mono ?_
  rintro e w3 ⟨r, rfl, hr, hbn⟩
  have HB := Lib.hid (HB1.out.go hbn)
  have HR := Lib.hid hr
  clear hr hbn HB1
  cases r
  · go_wp2_with fail
    refine (awake_any w3).mono ?_
    rintro e wz ⟨rfl, hbz⟩
    go_wp2_with fail
    go_ret
    exact ⟨rfl, bel2 HB.out.bel hbz⟩
  obtain ⟨hk40, -⟩ := HR.out rfl
  clear HR hkm
  have q0 := HB.out.bv.2 0 _ rfl
  have q1 := HB.out.bv.2 1 _ rfl
  have q2 := HB.out.bv.2 2 _ rfl
  have q3 := HB.out.bv.2 3 _ rfl
  have q4 := HB.out.bv.2 4 _ rfl
  go_wp2_with fail
  refine (ordered_prog k nn s l ks f _ h w3 K kc keys (HH.out.below HB.out.bel (Nat.le_refl _)) HSH.out (Nat.le_trans HCN.out (by decide)) (HK.out.below HB.out.bel (Nat.le_refl _)) (by omega) HKZ.out).mono ?_
  rintro e w6 ⟨b, hw, er, rfl, hbn, hl6, ho6⟩
  have HB2 := Lib.hid (HB.out.go hbn)
  have HL6 := Lib.hid hl6
  have HO6 := Lib.hid ho6
  clear hbn hl6 ho6 HB q0 q1 q2 q3 q4
  have HB := HB2
  clear HB2
  go_upto_region 4 with fail
  have hbn := one_alloc w6 (Obj.cells #[.int .i64 hw.k, .int .i64 hw.n, .string hw.s, .slice hw.A hw.la hw.lc, .slice hw.F hw.lf hw.fc] 25)
  have hcx := Bx.start w6 hw 25
  generalize w6.alloc (Obj.cells #[.int .i64 hw.k, .int .i64 hw.n, .string hw.s, .slice hw.A hw.la hw.lc, .slice hw.F hw.lf hw.fc] 25) = w7 at hbn hcx ⊢
  have HB7 := Lib.hid (HB.out.go hbn)
  have HW7 := Lib.hid hcx
  have HL7 := Lib.hid (HL6.out.below hbn (Nat.le_refl _))
  clear hbn hcx HB HL6
  by_cases hk : h.k = 5
  case neg =>
    have hk' : (h.k != 5) = true := by simpa using hk
    have HZ : Hid (er = 1 ∧ b = zeroVa) := Lib.hid (by
      rcases HO6.out with ⟨-, h2, h3⟩ | ⟨h1, -⟩ | ⟨h1, -⟩
      · exact ⟨h2, h3⟩
      · exact absurd h1.1 hk
      · exact absurd h1.1 hk)
    obtain ⟨rfl, rfl⟩ := HZ.out
    clear hk HZ HO6
    have q0 := HB7.out.bv.2 0 _ rfl
    have p0 := HW7.out.2 0 _ rfl
    have p1 := HW7.out.2 1 _ rfl
    have p2 := HW7.out.2 2 _ rfl
    have p3 := HW7.out.2 3 _ rfl
    have p4 := HW7.out.2 4 _ rfl
    go_wp2_with fail
    refine (zero_law zeroVa _ hw w7 HL7.out).mono ?_
    rintro e wz ⟨r, rfl, hr, hbz⟩
    obtain rfl : r = true := hr.2 rfl
    clear hr
    go_wp2_with fail
    go_ret
    exact ⟨rfl, bel2 HB7.out.bel hbz⟩
  have hk' : (h.k != 5) = false := by simp [hk]
  have HKV := Lib.hid hk
  have q0 := HB7.out.bv.2 0 _ rfl
  have q1 := HB7.out.bv.2 1 _ rfl
  have q2 := HB7.out.bv.2 2 _ rfl
  have q3 := HB7.out.bv.2 3 _ rfl
  have q4 := HB7.out.bv.2 4 _ rfl
  clear hk
  go_wp2_with fail
  refine (rightref (.mk k nn s l ks f) _ h w7 (HH.out.below HB7.out.bel (Nat.le_refl _)) HSH.out).mono ?_
  rintro e w8 ⟨r, rfl, hr, hbn⟩
  have HB8 := Lib.hid (HB7.out.go hbn)
  have HW8 := Lib.hid (HW7.out.go hbn HW7.out.1)
  have HL8 := Lib.hid (HL7.out.below hbn (Nat.le_refl _))
  have HR := Lib.hid hr
  clear hbn hr HB7 HW7 HL7 q0 q1 q2 q3 q4 hk'
  cases r
  · have HZ : Hid (er = 1 ∧ b = zeroVa) := Lib.hid (by
      rcases HO6.out with ⟨-, h2, h3⟩ | ⟨h1, -⟩ | ⟨h1, -⟩
      · exact ⟨h2, h3⟩
      · exact absurd (HR.out.2 h1.2) (by decide)
      · exact absurd (HR.out.2 h1.2) (by decide))
    obtain ⟨rfl, rfl⟩ := HZ.out
    clear HZ HO6 HR
    have p0 := HW8.out.2 0 _ rfl
    have p1 := HW8.out.2 1 _ rfl
    have p2 := HW8.out.2 2 _ rfl
    have p3 := HW8.out.2 3 _ rfl
    have p4 := HW8.out.2 4 _ rfl
    go_wp2_with fail
    refine (zero_law zeroVa _ hw w8 HL8.out).mono ?_
    rintro e wz ⟨r, rfl, hr, hbz⟩
    obtain rfl : r = true := hr.2 rfl
    clear hr
    go_wp2_with fail
    go_ret
    exact ⟨rfl, bel2 HB8.out.bel hbz⟩
  have HRV := Lib.hid (HR.out.1 rfl)
  clear HR
  go_wp2_with fail
  refine (twice_law3 keys K kc w8 (by omega) (HK.out.below HB8.out.bel (Nat.le_refl _))).mono ?_
  rintro e w9 ⟨r, rfl, hr, hbn⟩
  have HB9 := Lib.hid (HB8.out.go hbn)
  have HW9 := Lib.hid (HW8.out.go hbn HW8.out.1)
  have HL9 := Lib.hid (HL8.out.below hbn (Nat.le_refl _))
  have HR := Lib.hid hr
  clear hbn hr HB8 HW8 HL8
  cases r
  case true =>
    have HZ : Hid (er = 7 ∧ b = zeroVa) := Lib.hid (by
      rcases HO6.out with ⟨h1, -⟩ | ⟨-, -, h2, h3⟩ | ⟨-, h1, -⟩
      · exact absurd ⟨HKV.out, HRV.out⟩ h1
      · exact ⟨h2, h3⟩
      · exact absurd h1 (HR.out.1 rfl))
    obtain ⟨rfl, rfl⟩ := HZ.out
    clear HZ HO6 HR
    have p0 := HW9.out.2 0 _ rfl
    have p1 := HW9.out.2 1 _ rfl
    have p2 := HW9.out.2 2 _ rfl
    have p3 := HW9.out.2 3 _ rfl
    have p4 := HW9.out.2 4 _ rfl
    go_wp2_with fail
    refine (zero_law zeroVa _ hw w9 HL9.out).mono ?_
    rintro e wz ⟨r, rfl, hr, hbz⟩
    obtain rfl : r = true := hr.2 rfl
    clear hr
    go_wp2_with fail
    go_ret
    exact ⟨rfl, bel2 HB9.out.bel hbz⟩
  have HND : Hid keys.Nodup := Lib.hid (Classical.byContradiction fun q => by have := HR.out.2 q; cases this)
  have HZ : Hid (er = 0 ∧ b = ordV keys (.mk k nn s l ks f)) := Lib.hid (by
    rcases HO6.out with ⟨h1, -⟩ | ⟨-, h1, -⟩ | ⟨-, -, h2, h3⟩
    · exact absurd ⟨HKV.out, HRV.out⟩ h1
    · exact absurd HND.out h1
    · exact ⟨h2, h3⟩)
  obtain ⟨rfl, rfl⟩ := HZ.out
  obtain rfl : k = 5 := E1.out.symm.trans HKV.out
  obtain ⟨rfl, rfl, rfl, hnd⟩ := obj_R HRV.out
  have HNK := Lib.hid hnd
  have HALL := Lib.hid (ord_all (keys := keys) HND.out E6.out HRV.out)
  clear HZ HO6 HR hnd
  have HP := Lib.hid (ordered_prog 5 0 ByteArray.empty [] ((ordL keys (ks.zip f)).map Prod.fst) ((ordL keys (ks.zip f)).map Prod.snd) _ hw w9 K kc keys HL9.out (HALL.out.2.2.1 HSH.out) (by have h1 := HALL.out.2.1; have h2 := HCN.out; exact Nat.le_trans (Nat.le_of_eq h1) (Nat.le_trans h2 (by decide))) (HK.out.below HB9.out.bel (Nat.le_refl _)) (by omega) HKZ.out)
  have HWK : Hid (hw.k = 5) := Lib.hid (by have := HL9.out; simp only [ordV, Lies] at this; exact this.1.1)
  unfold Hd.val at HP
  have p0 := HW9.out.2 0 _ rfl
  have p1 := HW9.out.2 1 _ rfl
  have p2 := HW9.out.2 2 _ rfl
  have p3 := HW9.out.2 3 _ rfl
  have p4 := HW9.out.2 4 _ rfl
  go_wp2_with fail
  refine HP.out.mono ?_
  rintro e w10 ⟨b2, hx, er2, rfl, hbn, hl10, ho10⟩
  have HZ : Hid (er2 = 0 ∧ b2 = ordV keys (.mk 5 0 ByteArray.empty [] ks f)) := Lib.hid (by
    rcases ho10 with ⟨h1, -⟩ | ⟨-, h1, -⟩ | ⟨-, -, h2, h3⟩
    · exact absurd ⟨HWK.out, HALL.out.1⟩ h1
    · exact absurd HND.out h1
    · exact ⟨h2, h3.trans HALL.out.2.2.2.2⟩)
  obtain ⟨rfl, rfl⟩ := HZ.out
  have HB10 := Lib.hid (HB9.out.go hbn)
  have HW10 := Lib.hid (HW9.out.go hbn HW9.out.1)
  have HL10 := Lib.hid (HL9.out.below hbn (Nat.le_refl _))
  have HX10 := Lib.hid hl10
  clear hbn hl10 ho10 HZ HB9 HW9 HL9 HP p0 p1 p2 p3 p4
  go_upto_region 9 with fail
  have hbn := one_alloc w10 (Obj.cells #[.int .i64 hx.k, .int .i64 hx.n, .string hx.s, .slice hx.A hx.la hx.lc, .slice hx.F hx.lf hx.fc] 25)
  have hcx := Bx.start w10 hx 25
  generalize w10.alloc (Obj.cells #[.int .i64 hx.k, .int .i64 hx.n, .string hx.s, .slice hx.A hx.la hx.lc, .slice hx.F hx.lf hx.fc] 25) = w11 at hbn hcx ⊢
  have hbd : Below w10.heap.size w10 w11.drew := hbn.drew
  have hbe : Below w11.heap.size w11 w11.drew := (Below.refl _ _).drew
  have HBD := Lib.hid (HB10.out.go hbd)
  have HWD := Lib.hid (HW10.out.go hbd HW10.out.1)
  have HXD := Lib.hid (hcx.go hbe hcx.1)
  have HLD := Lib.hid (HL10.out.below hbd (Nat.le_refl _))
  have HLX := Lib.hid (HX10.out.below hbd (Nat.le_refl _))
  have hn1 := HB10.out.bv.1
  have hn2 := HW10.out.1
  have hn3 := hcx.1
  clear hbn hcx hbd hbe HB10 HW10 HL10 HX10
  have HS0 := Lib.hid (S15.of HBD.out.bv HWD.out HXD.out)
  have HS1 := Lib.hid (show ∀ wF, Below w11.drew.heap.size w11.drew wF → S15 W.heap.size h w6.heap.size hw w10.heap.size hx wF from fun wF hb => S15.of (HBD.out.bv.go hb HBD.out.bv.1) (HWD.out.go hb HWD.out.1) (HXD.out.go hb HXD.out.1))
  have HS2 := Lib.hid (show ∀ wF wG, Below w11.drew.heap.size w11.drew wF → Below wF.heap.size wF wG → S15 W.heap.size h w6.heap.size hw w10.heap.size hx wG from fun wF wG hb hc => HS1.out wG (bel2 hb hc))
  have HS3 := Lib.hid (show ∀ wF wG wH, Below w11.drew.heap.size w11.drew wF → Below wF.heap.size wF wG → Below wG.heap.size wG wH → S15 W.heap.size h w6.heap.size hw w10.heap.size hx wH from fun wF wG wH hb hc hd => HS1.out wH (bel2 (bel2 hb hc) hd))
  have HS4 := Lib.hid (show ∀ wF wG wH wI, Below w11.drew.heap.size w11.drew wF → Below wF.heap.size wF wG → Below wG.heap.size wG wH → Below wH.heap.size wH wI → S15 W.heap.size h w6.heap.size hw w10.heap.size hx wI from fun wF wG wH wI hb hc hd he => HS1.out wI (bel2 (bel2 (bel2 hb hc) hd) he))
  have C1 := Lib.hid (ordered_ref keys 5 0 ByteArray.empty ks f (fun b => b < w11.drew.heap.size) h w11.drew K kc (fun b hb => hb) (Lies.keep (fun _ _ _ => rfl) (fun b _ hb => hb) _ _ (HH.out.below HBD.out.bel (Nat.le_refl _))) (Nat.le_trans HCN.out (by decide)) (HK.out.below HBD.out.bel (Nat.le_refl _)) (by omega) HND.out HNK.out HKZ.out)
  have C2 := Lib.hid (show ∀ wF hs1 (S : Nat → Prop), Below w11.drew.heap.size w11.drew wF → Lies wF S (ordV keys (.mk 5 0 ByteArray.empty [] ks f)) hs1 → Calls Try.prog 24 #[hw.val, hs1.val] wF (fun e w' => e = .returned (.bool true) ∧ Below wF.heap.size wF w') from fun wF hs1 S hb hl => (same_ref _ _ _ _ hw hs1 wF (HLD.out.below hb (Nat.le_refl _)) hl).mono (by
    rintro e w' ⟨r, rfl, hr, hb⟩
    exact ⟨by rw [hr.2 rfl], hb⟩))
  have C3 := Lib.hid (show ∀ wF wG, Below w11.drew.heap.size w11.drew wF → Below wF.heap.size wF wG → Calls Try.prog 27 #[h.val, hw.val] wG (fun e w' => e = .returned (.bool true) ∧ Below wG.heap.size wG w') from fun wF wG hb hc => (alike_prog _ _ _ _ h hw wG (HH.out.below (bel2 (bel2 HBD.out.bel hb) hc) (Nat.le_refl _)) (HLD.out.below (bel2 hb hc) (Nat.le_refl _)) HSH.out (HALL.out.2.2.1 HSH.out) (Nat.le_trans HCN.out (by decide)) (Nat.le_trans (Nat.le_of_eq HALL.out.2.1) (Nat.le_trans HCN.out (by decide)))).mono (by
    rintro e w' ⟨r, rfl, hr, hb⟩
    exact ⟨by rw [hr.2 ⟨HRV.out, HALL.out.1, HALL.out.2.2.2.1.symm⟩], hb⟩))
  have C4 := Lib.hid (show ∀ wF wG wH, Below w11.drew.heap.size w11.drew wF → Below wF.heap.size wF wG → Below wG.heap.size wG wH → Calls Try.prog 26 #[hw.val, hx.val] wH (fun e w' => e = .returned (.bool true) ∧ Below wH.heap.size wH w') from fun wF wG wH hb hc hd => (same_prog _ _ _ _ hw hx wH (HLD.out.below (bel2 (bel2 hb hc) hd) (Nat.le_refl _)) (HLX.out.below (bel2 (bel2 hb hc) hd) (Nat.le_refl _)) (HALL.out.2.2.1 HSH.out) (HALL.out.2.2.1 HSH.out) (Nat.le_trans (Nat.le_of_eq HALL.out.2.1) (Nat.le_trans HCN.out (by decide))) (Nat.le_trans (Nat.le_of_eq HALL.out.2.1) (Nat.le_trans HCN.out (by decide)))).mono (by
    rintro e w' ⟨r, rfl, hr, hb⟩
    exact ⟨by rw [hr.2 ⟨HALL.out.1, HALL.out.1, rfl⟩], hb⟩))
  have HEND := Lib.hid HBD.out.bel
  unfold Hd.val at C1 C2 C3 C4
  clear HH HK HKZ HSH HCN HALL HBD HWD HXD HLD HLX HRV HND HNK HKV HWK E1 E6
  go_wp2_with fail
  go_region_held3 (fun w' => w'.cell? ⟨W.heap.size, 0, none⟩ = some (.int .i64 h.k) ∧ w'.cell? ⟨W.heap.size, 1, none⟩ = some (.int .i64 h.n) ∧ w'.cell? ⟨W.heap.size, 2, none⟩ = some (.string h.s) ∧ w'.cell? ⟨W.heap.size, 3, none⟩ = some (.slice h.A h.la h.lc) ∧ w'.cell? ⟨W.heap.size, 4, none⟩ = some (.slice h.F h.lf h.fc) ∧ w'.cell? ⟨w6.heap.size, 0, none⟩ = some (.int .i64 hw.k) ∧ w'.cell? ⟨w6.heap.size, 1, none⟩ = some (.int .i64 hw.n) ∧ w'.cell? ⟨w6.heap.size, 2, none⟩ = some (.string hw.s) ∧ w'.cell? ⟨w6.heap.size, 3, none⟩ = some (.slice hw.A hw.la hw.lc) ∧ w'.cell? ⟨w6.heap.size, 4, none⟩ = some (.slice hw.F hw.lf hw.fc) ∧ w'.cell? ⟨w10.heap.size, 0, none⟩ = some (.int .i64 hx.k) ∧ w'.cell? ⟨w10.heap.size, 1, none⟩ = some (.int .i64 hx.n) ∧ w'.cell? ⟨w10.heap.size, 2, none⟩ = some (.string hx.s) ∧ w'.cell? ⟨w10.heap.size, 3, none⟩ = some (.slice hx.A hx.la hx.lc) ∧ w'.cell? ⟨w10.heap.size, 4, none⟩ = some (.slice hx.F hx.lf hx.fc))
    (first
      | (have h7 := HS4.out _ _ _ _ hbF hbG hbH hbI; with_reducible exact h7)
      | (have h7 := HS3.out _ _ _ hbF hbG hbH; with_reducible exact h7)
      | (have h7 := HS2.out _ _ hbF hbG; with_reducible exact h7)
      | (have h7 := HS1.out _ hbF; with_reducible exact h7)
      | (have h7 := HS0.out; with_reducible exact h7)
      | fail)
    (first
      | (go_at_call 26; refine (C4.out _ _ _ hbF hbG hbH).mono ?_; rintro e wI ⟨rfl, hbI⟩)
      | (go_at_call 27; refine (C3.out _ _ hbF hbG).mono ?_; rintro e wH ⟨rfl, hbH⟩)
      | (go_at_call 24; refine (C2.out _ _ _ hbF hl1).mono ?_; rintro e wG ⟨rfl, hbG⟩)
      | (go_at_call 37; refine C1.out.mono ?_; rintro e wF ⟨hs1, rfl, hl1, hbF⟩)
      | fail)
  have HZ := Lib.hid (bel2 (bel2 (bel2 (bel2 HEND.out hbF) hbG) hbH) hbI)
  clear hbF hbG hbH hbI hl1
  go_wp2_with fail
  go_ret
  exact ⟨rfl, HZ.out⟩
theorem own : ownKnob Try.prog.godebug = none := by kernel_rfl
theorem laidOut : laidOutB Try.prog = true := by kernel_rfl
set_option maxRecDepth 100000 in
theorem lifted (os : Os) (started : os.Started) (H : Type) (enc : TypeId × Value → H) :
    ReturnsInHanded {} Try.checked os 7 .any (Rows.treeOrdersSpec.pre6 enc Try.prog Try.f7 Rows.treeOrdersRow.domain false) (Rows.treeOrdersSpec.post enc Try.prog Try.f7 false true false false) := by
  refine returnsInHanded_of_change (C := Try.checked) own started (by kernel_rfl) Try.func7
    (ChangeSpec.witness6 (enc := enc) (C := Try.checked) false ⟨#[], #[.agg #[.int .i64 0, .int .i64 0, .string ByteArray.empty, .slice none 0 0, .slice none 0 0], .slice none 0 0], []⟩ 8 (by kernel_rfl) (by kernel_rfl) (by kernel_rfl) (by kernel_rfl)) ?_
  intro W base args ds gs before hval0 hW hcnd _
  have hval : ∀ (j : Nat) t v, Try.f7.params[j]? = some t → args[j]? = some v → Value.okWide Try.prog W .any base t v := hval0
  have hW' := hW
  obtain ⟨p, q, hA0, hV, rfl, hfz, hnd⟩ := hW
  have hA : DataW.TrodAll enc Try.prog W 0 (fun _ => true) true Try.f7.params.toList args.toList ds p := hA0
  rw [Try.params7] at hA hval
  obtain ⟨v0, vs0, d0, ds0, p0, q0, hargs, rfl, rfl, h0, r0⟩ := trodAll_cons hA
  obtain ⟨v1, vs1, d1, ds1, p1, q1, rfl, rfl, rfl, h1, r1⟩ := trodAll_cons r0
  obtain ⟨rfl, rfl, rfl⟩ := trodAll_nil r1
  obtain rfl : args = #[v0, v1] := by cases args; simp_all
  obtain ⟨rfl, rfl⟩ := trodVars_none hV
  have k0 := h0
  have lt0 : ∀ x ∈ p0, x.block < W.heap.size := by obtain ⟨m, hm⟩ := k0; exact DataW.trod_lt m _ _ _ hm
  obtain ⟨a0, g0, rfl, w0⟩ := open_value (hval 0 25 v0 rfl rfl) h0
  have k1 := h1
  have lt1 : ∀ x ∈ p1, x.block < W.heap.size := by obtain ⟨m, hm⟩ := k1; exact DataW.trod_lt m _ _ _ hm
  obtain ⟨a1, l1, c1, rfl⟩ := okWide_slice Try.underlying44 (hval 1 44 v1 rfl rfl)
  obtain ⟨z1, w1⟩ := is_strs Try.underlying44 Try.underlying9 (by kernel_rfl) h1
  clear hA0 hval0
  refine (walk W a0 g0 w0 a1 l1 c1 z1 w1).mono fun e W' ⟨he, bel⟩ => ?_
  subst he
  exact ⟨_, rfl, _, _, _, [], _, [], hW', trodAll_mk1 (shut_bool Try.underlying4 _), (trodAll_cons_mk (Below.trod laidOut (by kernel_rfl) (of_decide_eq_true (by kernel_rfl)) k0 bel lt0) (trodAll_cons_mk (Below.trod laidOut (by kernel_rfl) (of_decide_eq_true (by kernel_rfl)) k1 bel lt1) trodAll_mk0)), rfl, bel.frame _, fun h => by cases h⟩
theorem over : Rows.treeOrdersRow.holds Try.pinned (OpenSpec.ofChange Rows.treeOrdersSpec) :=
  OpenClaim.holds_of_wide 7 Try.f7 rfl rfl rfl rfl rfl rfl rfl ⟨rfl, rfl, rfl, rfl, rfl⟩ rfl rfl rfl rfl rfl (by kernel_rfl) Try.func7 (by kernel_rfl)
    (of_decide_eq_true (by kernel_rfl)) (by unfold Func.isWrapper; first | (rw [if_pos (by decide +kernel)]; kernel_rfl) | (rw [if_neg (by decide +kernel)]; exact ⟨rfl, rfl⟩))
    (fun os started H enc _ => lifted os started H enc)
theorem proved : Rows.TreeOrdersSaid := over
end Go.Proofs.Ytmdlcalnncncjaa.treeOrders
namespace Go.Proofs.Ytmdlcalnncncjaa
theorem treeOrders_holds : Rows.TreeOrdersSaid := treeOrders.proved
#print axioms treeOrders_holds
end Go.Proofs.Ytmdlcalnncncjaa
