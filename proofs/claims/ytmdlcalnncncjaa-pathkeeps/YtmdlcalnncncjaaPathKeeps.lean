/- 'cascadelaw06.PathKeeps' returns true at every input, and leaves it as it was: what path.Put puts is found by path.Find, and what another path leads to, that isn't under that one, nor that one under it, stays. No condition. -/
import Derived.Test.YtmdlcalnncncjaaRows
import Derived.Test.YtmdlcalnncncjaaPKeepP
import Derived.Test.YtmdlcalnncncjaaPOpen2
import Derived.ProofKit
import Derived.OpenShut
import Derived.ShutString
import Derived.ChangeOld
import Derived.BigQuiet
set_option linter.unusedVariables false
set_option linter.unusedSimpArgs false
namespace Go.Proofs.Ytmdlcalnncncjaa.pathKeeps
open Go.ChangeShapes Go.WideShapes Go.ChangeAt Go.RowKit
open Go.ChangeMaps (open_string shut_string)
theorem bel2 {w w1 w2 : World} (h : Below w.heap.size w w1) (k : Below w1.heap.size w1 w2) : Below w.heap.size w w2 := h.trans (k.mono h.size)
def ends (W : World) (e : Ending) (w' : World) : Prop := e = .returned (.bool true) ∧ Below W.heap.size W w'
/-- The two values' boxes. -/
structure B2 (W : World) (h hx : Hd) (wr : World) : Prop where
  bel : Below W.heap.size W wr
  bv : Bx wr W.heap.size h
  bx : Bx wr (W.heap.size + 1) hx
theorem B2.go {W wr w' : World} {h hx : Hd} (H : B2 W h hx wr) (hb : Below wr.heap.size wr w') : B2 W h hx w' := ⟨bel2 H.bel hb, H.bv.go hb H.bv.1, H.bx.go hb H.bx.1⟩
set_option maxHeartbeats 8000000 in
set_option maxRecDepth 100000 in
theorem walk (W : World) (a : Va) (h : Hd) (H : Lies W (fun _ => True) a h) (x : Va) (hx : Hd) (HX : Lies W (fun _ => True) x hx) (A : Option Addr) (m c : Nat) (p : List St) (B : Option Addr) (m2 c2 : Nat) (q : List St) (hp : IsPath W A m c p) (hq : IsPath W B m2 c2 q) : Calls Try.prog 13 #[h.val, hx.val, .agg #[.slice A m c, .slice B m2 c2]] W fun e w' => e = .returned (.bool true) ∧ Below W.heap.size W w' := by
  show Calls Try.prog 13 #[h.val, hx.val, .agg #[.slice A m c, .slice B m2 c2]] W (ends W)
  obtain ⟨hm, hpc, hpm, hpA⟩ := hp
  obtain ⟨hm2, hqc, hqm, hqA⟩ := hq
  have HP := Lib.hid hpA
  have HQ := Lib.hid hqA
  have HM := Lib.hid hm
  have HM2 := Lib.hid hm2
  have HH := Lib.hid H
  have HXX := Lib.hid HX
  have hmc : m ≤ c := by omega
  have hmc2 : m2 ≤ c2 := by omega
  have HQC := Lib.hid hqc
  have HPC := Lib.hid hpc
  have hB0 : B2 W h hx (((W.alloc (Obj.cells #[.int .i64 h.k, .int .i64 h.n, .string h.s, .slice h.A h.la h.lc, .slice h.F h.lf h.fc] 25)).alloc (Obj.cells #[.int .i64 hx.k, .int .i64 hx.n, .string hx.s, .slice hx.A hx.la hx.lc, .slice hx.F hx.lf hx.fc] 25)).alloc (Obj.cells #[.slice A m c, .slice B m2 c2] 63)) := ⟨three_allocs _ _ _ _, ((Bx.start W h 25).alloc _).alloc _, (Bx.start' _ hx 25 (by simp)).alloc _⟩
  have l0 : (((W.alloc (Obj.cells #[.int .i64 h.k, .int .i64 h.n, .string h.s, .slice h.A h.la h.lc, .slice h.F h.lf h.fc] 25)).alloc (Obj.cells #[.int .i64 hx.k, .int .i64 hx.n, .string hx.s, .slice hx.A hx.la hx.lc, .slice hx.F hx.lf hx.fc] 25)).alloc (Obj.cells #[.slice A m c, .slice B m2 c2] 63)).cell? ⟨W.heap.size + 1 + 1, 0, none⟩ = some (.slice A m c) := by rw [World.cell?_alloc_at _ _ _ _ (by simp)]; rfl
  have l1 : (((W.alloc (Obj.cells #[.int .i64 h.k, .int .i64 h.n, .string h.s, .slice h.A h.la h.lc, .slice h.F h.lf h.fc] 25)).alloc (Obj.cells #[.int .i64 hx.k, .int .i64 hx.n, .string hx.s, .slice hx.A hx.la hx.lc, .slice hx.F hx.lf hx.fc] 25)).alloc (Obj.cells #[.slice A m c, .slice B m2 c2] 63)).cell? ⟨W.heap.size + 1 + 1, 1, none⟩ = some (.slice B m2 c2) := by rw [World.cell?_alloc_at _ _ _ _ (by simp)]; rfl
  have HB0 := Lib.hid hB0
  clear H HX hpA hqA hm hm2 hpc hqc hB0
  unfold Hd.val at *
  go_enter Try.func13, Try.ntmps13
  go_wp2_with fail
  go_quiet (fail)
  have HB := Lib.hid (HB0.out.go (below_drewN3 (Below.refl _ _) nq))
  generalize World.drewN _ nq = w0 at HB ⊢
  clear l0 l1 HB0
  have K0 := Lib.hid (awake6 w0)
  go_wp2_with fail
  refine K0.out.mono ?_
  rintro e w1 ⟨rfl, hbn⟩
  have HB2 := Lib.hid (HB.out.go hbn)
  clear hbn HB K0
  have q0 := HB2.out.bv.2 0 _ rfl
  have q1 := HB2.out.bv.2 1 _ rfl
  have q2 := HB2.out.bv.2 2 _ rfl
  have q3 := HB2.out.bv.2 3 _ rfl
  have q4 := HB2.out.bv.2 4 _ rfl
  go_wp2_with fail
  refine (few_ref a _ h w1 (HH.out.below HB2.out.bel (Nat.le_refl _))).mono ?_
  rintro e w2 ⟨r, rfl, hr, hbn⟩
  have HB := Lib.hid (HB2.out.go hbn)
  have HR := Lib.hid hr
  clear hr hbn HB2 q0 q1 q2 q3 q4
  cases r
  · go_wp2_with fail
    refine (awake6 w2).mono ?_
    rintro e wz ⟨rfl, hbz⟩
    go_wp2_with fail
    go_ret
    exact ⟨rfl, bel2 HB.out.bel hbz⟩
  obtain ⟨hsh, hcn⟩ := HR.out rfl
  have HSH := Lib.hid hsh
  clear hsh HR
  have q0 := HB.out.bx.2 0 _ rfl
  have q1 := HB.out.bx.2 1 _ rfl
  have q2 := HB.out.bx.2 2 _ rfl
  have q3 := HB.out.bx.2 3 _ rfl
  have q4 := HB.out.bx.2 4 _ rfl
  go_wp2_with fail
  refine (few_ref x _ hx w2 (HXX.out.below HB.out.bel (Nat.le_refl _))).mono ?_
  rintro e w3 ⟨r, rfl, hr, hbn⟩
  have HB2 := Lib.hid (HB.out.go hbn)
  have HR := Lib.hid hr
  clear hr hbn HB q0 q1 q2 q3 q4
  have HB := HB2
  cases r
  · go_wp2_with fail
    refine (awake6 w3).mono ?_
    rintro e wz ⟨rfl, hbz⟩
    go_wp2_with fail
    go_ret
    exact ⟨rfl, bel2 HB.out.bel hbz⟩
  obtain ⟨hxs, hxc⟩ := HR.out rfl
  have HXS := Lib.hid hxs
  clear hxs HR HB
  go_wp2_with fail
  refine (fewS_any p A m c w3 HM.out (HP.out.below HB2.out.bel (Nat.le_refl _)) hpm).mono ?_
  rintro e w4 ⟨f1, rfl, hf1, hbn⟩
  have HB := Lib.hid (HB2.out.go hbn)
  have HF1 := Lib.hid hf1
  clear hf1 hbn HB2
  cases f1
  · go_wp2_with fail
    refine (awake6 w4).mono ?_
    rintro e wz ⟨rfl, hbz⟩
    go_wp2_with fail
    go_ret
    exact ⟨rfl, bel2 HB.out.bel hbz⟩
  have FP := Lib.hid (HF1.out rfl)
  have hp4 : m ≤ 40 := by have := FP.out.1; have := HM.out; omega
  clear HF1
  go_wp2_with fail
  refine (fewS_any q B m2 c2 w4 HM2.out (HQ.out.below HB.out.bel (Nat.le_refl _)) hqm).mono ?_
  rintro e w5 ⟨f1, rfl, hf1, hbn⟩
  have HB2 := Lib.hid (HB.out.go hbn)
  have HF1 := Lib.hid hf1
  clear hf1 hbn HB
  have HB := HB2
  cases f1
  · go_wp2_with fail
    refine (awake6 w5).mono ?_
    rintro e wz ⟨rfl, hbz⟩
    go_wp2_with fail
    go_ret
    exact ⟨rfl, bel2 HB.out.bel hbz⟩
  have FQ := Lib.hid (HF1.out rfl)
  have hq4 : m2 ≤ 40 := by have := FQ.out.1; have := HM2.out; omega
  clear HF1 HB2
  have q0 := HB.out.bv.2 0 _ rfl
  have q1 := HB.out.bv.2 1 _ rfl
  have q2 := HB.out.bv.2 2 _ rfl
  have q3 := HB.out.bv.2 3 _ rfl
  have q4 := HB.out.bv.2 4 _ rfl
  have x0 := HB.out.bx.2 0 _ rfl
  have x1 := HB.out.bx.2 1 _ rfl
  have x2 := HB.out.bx.2 2 _ rfl
  have x3 := HB.out.bx.2 3 _ rfl
  have x4 := HB.out.bx.2 4 _ rfl
  go_wp2_with fail
  refine (put_prog a x _ _ h hx w5 A m c p (HH.out.below HB.out.bel (Nat.le_refl _)) (HXX.out.below HB.out.bel (Nat.le_refl _)) HSH.out (by omega) HXS.out (by omega) (HP.out.below HB.out.bel (Nat.le_refl _)) HM.out hmc (by omega)).mono ?_
  rintro e w6 ⟨b, hw, er, rfl, hbn, hl6, ho6⟩
  have HB2 := Lib.hid (HB.out.go hbn)
  have HL6 := Lib.hid hl6
  have HO6 := Lib.hid ho6
  clear hbn hl6 ho6 HB q0 q1 q2 q3 q4 x0 x1 x2 x3 x4
  have HB := HB2
  clear HB2
  go_upto_region 5 with fail
  have hbn := one_alloc w6 (Obj.cells #[.int .i64 hw.k, .int .i64 hw.n, .string hw.s, .slice hw.A hw.la hw.lc, .slice hw.F hw.lf hw.fc] 25)
  have hcx := Bx.start w6 hw 25
  generalize w6.alloc (Obj.cells #[.int .i64 hw.k, .int .i64 hw.n, .string hw.s, .slice hw.A hw.la hw.lc, .slice hw.F hw.lf hw.fc] 25) = w7 at hbn hcx ⊢
  have HB2 := Lib.hid (HB.out.go hbn)
  have HW7 := Lib.hid hcx
  have HL7 := Lib.hid (HL6.out.below hbn (Nat.le_refl _))
  clear hbn hcx HB HL6
  have s0 := HW7.out.2 0 _ rfl
  have s1 := HW7.out.2 1 _ rfl
  have s2 := HW7.out.2 2 _ rfl
  have s3 := HW7.out.2 3 _ rfl
  have s4 := HW7.out.2 4 _ rfl
  by_cases he : er = 0
  case neg =>
    have he' := bq_no he
    obtain rfl : b = zeroVa := by
      rcases HO6.out with ⟨_, _, h⟩ | ⟨_, _, _, h⟩ | ⟨_, _, _, h, _⟩ | ⟨_, _, _, _, h⟩
      · exact h
      · exact h
      · exact absurd h he
      · exact h
    clear he
    go_wp2_with fail
    refine (zero_law6 zeroVa _ hw w7 HL7.out).mono ?_
    rintro e w8 ⟨r, rfl, hr, hb8⟩
    obtain rfl : r = true := hr.2 rfl
    clear hr
    go_wp2_with fail
    go_ret
    exact ⟨rfl, bel2 HB2.out.bel hb8⟩
  subst he
  have HALL : Hid (AllR a p [x] ∧ (goV a p).isSome = true ∧ (putV a p x).R 12 ∧ b = putV a p x) := Lib.hid (by
    rcases HO6.out with ⟨_, h, _⟩ | ⟨_, _, h, _⟩ | ⟨h1, h2, h3, _, h5⟩ | ⟨_, _, _, h, _⟩
    · exact absurd h (by decide)
    · exact absurd h (by decide)
    · exact ⟨h1, h2, h3, h5⟩
    · exact absurd h (by decide))
  clear HO6
  have HBO : Hid (b.Sh ∧ b.cnt ≤ 1000) := Lib.hid (by
    rw [HALL.out.2.2.2]
    have := putV_both HXS.out p a HSH.out
    exact ⟨this.1, by omega⟩)
  go_wp2_with fail
  refine (find_prog b _ hw w7 A m c p HL7.out HBO.out.1 HBO.out.2 (HP.out.below HB2.out.bel (Nat.le_refl _)) HM.out hmc (by omega)).mono ?_
  rintro e w8 ⟨y, hy, ok, rfl, hbn, hl8, ho8⟩
  obtain ⟨rfl, rfl⟩ : ok = true ∧ x = y := by
    have hgx : goV b p = some x := by rw [HALL.out.2.2.2]; exact go_put x p a HALL.out.2.1
    have hal : AllR b p [] := ⟨by rw [HALL.out.2.2.2]; exact HALL.out.2.2.1, HALL.out.1.2.1, by simp⟩
    rcases ho8 with ⟨h1, _, h3⟩ | ⟨_, _, h3⟩
    · rw [hgx] at h3; cases h3; exact ⟨h1, rfl⟩
    · rw [hgx] at h3; cases h3 hal
  have HB := Lib.hid (HB2.out.go hbn)
  have HW8 := Lib.hid (HW7.out.go hbn HW7.out.1)
  have HL8 := Lib.hid (HL7.out.below hbn (Nat.le_refl _))
  have HLY := Lib.hid hl8
  clear hbn hl8 ho8 HB2 HW7 HL7 s0 s1 s2 s3 s4
  go_upto_region 8 with fail
  have hbn := one_alloc w8 (Obj.cells #[.int .i64 hy.k, .int .i64 hy.n, .string hy.s, .slice hy.A hy.la hy.lc, .slice hy.F hy.lf hy.fc] 25)
  have hcx := Bx.start w8 hy 25
  generalize w8.alloc (Obj.cells #[.int .i64 hy.k, .int .i64 hy.n, .string hy.s, .slice hy.A hy.la hy.lc, .slice hy.F hy.lf hy.fc] 25) = w9 at hbn hcx ⊢
  have HB2 := Lib.hid (HB.out.go hbn)
  have HY9 := Lib.hid hcx
  have HW9 := Lib.hid (HW8.out.go hbn HW8.out.1)
  have HL9 := Lib.hid (HL8.out.below hbn (Nat.le_refl _))
  have HLY9 := Lib.hid (HLY.out.below hbn (Nat.le_refl _))
  clear hbn hcx HB HW8 HL8 HLY
  have q0 := HB2.out.bx.2 0 _ rfl
  have q1 := HB2.out.bx.2 1 _ rfl
  have q2 := HB2.out.bx.2 2 _ rfl
  have q3 := HB2.out.bx.2 3 _ rfl
  have q4 := HB2.out.bx.2 4 _ rfl
  have s0 := HY9.out.2 0 _ rfl
  have s1 := HY9.out.2 1 _ rfl
  have s2 := HY9.out.2 2 _ rfl
  have s3 := HY9.out.2 3 _ rfl
  have s4 := HY9.out.2 4 _ rfl
  go_wp2_with fail
  refine (same_ref x x _ _ hx hy w9 (HXX.out.below HB2.out.bel (Nat.le_refl _)) HLY9.out).mono ?_
  rintro e w10 ⟨r, rfl, hr, hbn⟩
  obtain rfl : r = true := hr.2 rfl
  have HB := Lib.hid (HB2.out.go hbn)
  have HW10 := Lib.hid (HW9.out.go hbn HW9.out.1)
  have HL10 := Lib.hid (HL9.out.below hbn (Nat.le_refl _))
  clear hbn hr HB2 HW9 HL9 HLY9 HY9 q0 q1 q2 q3 q4 s0 s1 s2 s3 s4
  have q0 := HB.out.bv.2 0 _ rfl
  have q1 := HB.out.bv.2 1 _ rfl
  have q2 := HB.out.bv.2 2 _ rfl
  have q3 := HB.out.bv.2 3 _ rfl
  have q4 := HB.out.bv.2 4 _ rfl
  go_wp2_with fail
  refine (find_prog a _ h w10 B m2 c2 q (HH.out.below HB.out.bel (Nat.le_refl _)) HSH.out (by omega) (HQ.out.below HB.out.bel (Nat.le_refl _)) HM2.out hmc2 (by omega)).mono ?_
  rintro e w11 ⟨d1, g1, ok1, rfl, hbn, hl11, ho11⟩
  have HB2 := Lib.hid (HB.out.go hbn)
  have HW11 := Lib.hid (HW10.out.go hbn HW10.out.1)
  have HL11 := Lib.hid (HL10.out.below hbn (Nat.le_refl _))
  have HD11 := Lib.hid hl11
  have HO11 := Lib.hid ho11
  clear hbn hl11 ho11 HB HW10 HL10 q0 q1 q2 q3 q4
  have HB := HB2
  clear HB2
  go_upto_region 11 with fail
  have hbn := one_alloc w11 (Obj.cells #[.int .i64 g1.k, .int .i64 g1.n, .string g1.s, .slice g1.A g1.la g1.lc, .slice g1.F g1.lf g1.fc] 25)
  have hcx := Bx.start w11 g1 25
  generalize w11.alloc (Obj.cells #[.int .i64 g1.k, .int .i64 g1.n, .string g1.s, .slice g1.A g1.la g1.lc, .slice g1.F g1.lf g1.fc] 25) = w12 at hbn hcx ⊢
  have HB2 := Lib.hid (HB.out.go hbn)
  have HG12 := Lib.hid hcx
  have HW12 := Lib.hid (HW11.out.go hbn HW11.out.1)
  have HL12 := Lib.hid (HL11.out.below hbn (Nat.le_refl _))
  have HD12 := Lib.hid (HD11.out.below hbn (Nat.le_refl _))
  clear hbn hcx HB HW11 HL11 HD11
  have s0 := HW12.out.2 0 _ rfl
  have s1 := HW12.out.2 1 _ rfl
  have s2 := HW12.out.2 2 _ rfl
  have s3 := HW12.out.2 3 _ rfl
  have s4 := HW12.out.2 4 _ rfl
  go_wp2_with fail
  refine (find_prog b _ hw w12 B m2 c2 q HL12.out HBO.out.1 HBO.out.2 (HQ.out.below HB2.out.bel (Nat.le_refl _)) HM2.out hmc2 (by omega)).mono ?_
  rintro e w13 ⟨d2, g2, ok2, rfl, hbn, hl13, ho13⟩
  have HB := Lib.hid (HB2.out.go hbn)
  have HG13 := Lib.hid (HG12.out.go hbn HG12.out.1)
  have HD13 := Lib.hid (HD12.out.below hbn (Nat.le_refl _))
  have HE13 := Lib.hid hl13
  have HEQ : Hid (¬ (p.length ≤ q.length ∧ p = q.take p.length) → ¬ (q.length ≤ p.length ∧ q = p.take q.length) → ok1 = ok2 ∧ d1 = d2) := Lib.hid (fun n1 n2 => by
    by_cases hq2 : PathR q
    · have hgq : goV b q = goV a q := by rw [HALL.out.2.2.2]; exact go_other x p q a HALL.out.1.2.1.2 hq2.2 HALL.out.2.1 n1 n2
      have al1 : AllR a q [] := ⟨HALL.out.1.1, hq2, by simp⟩
      have al2 : AllR b q [] := ⟨by rw [HALL.out.2.2.2]; exact HALL.out.2.2.1, hq2, by simp⟩
      rcases HO11.out with ⟨a1, _, a3⟩ | ⟨a1, a2, a3⟩ <;> rcases ho13 with ⟨b1, _, b3⟩ | ⟨b1, b2, b3⟩
      · rw [hgq, a3] at b3; cases b3; exact ⟨by rw [a1, b1], rfl⟩
      · have := b3 al2; rw [hgq, a3] at this; cases this
      · have := a3 al1; rw [hgq, this] at b3; cases b3
      · exact ⟨by rw [a1, b1], by rw [a2, b2]⟩
    · rcases HO11.out with ⟨_, a2, _⟩ | ⟨a1, a2, a3⟩
      · exact absurd a2.2.1 hq2
      · rcases ho13 with ⟨_, b2, _⟩ | ⟨b1, b2, b3⟩
        · exact absurd b2.2.1 hq2
        · exact ⟨by rw [a1, b1], by rw [a2, b2]⟩)
  clear hbn hl13 ho13 HB2 HW12 HL12 HG12 HD12 HO11 s0 s1 s2 s3 s4
  go_upto_region 12 with fail
  have hbn := one_alloc w13 (Obj.cells #[.int .i64 g2.k, .int .i64 g2.n, .string g2.s, .slice g2.A g2.la g2.lc, .slice g2.F g2.lf g2.fc] 25)
  have hcx := Bx.start w13 g2 25
  generalize w13.alloc (Obj.cells #[.int .i64 g2.k, .int .i64 g2.n, .string g2.s, .slice g2.A g2.la g2.lc, .slice g2.F g2.lf g2.fc] 25) = w14 at hbn hcx ⊢
  have HB2 := Lib.hid (HB.out.go hbn)
  have HK14 := Lib.hid hcx
  have HG14 := Lib.hid (HG13.out.go hbn HG13.out.1)
  have HD14 := Lib.hid (HD13.out.below hbn (Nat.le_refl _))
  have HE14 := Lib.hid (HE13.out.below hbn (Nat.le_refl _))
  clear hbn hcx HB HG13 HD13 HE13
  go_wp2_with fail
  refine (path_under_ref p q A B m m2 c c2 w14 HM.out HM2.out (HP.out.below HB2.out.bel (Nat.le_refl _)) (HQ.out.below HB2.out.bel (Nat.le_refl _)) (by have := HM.out; omega) hqm HQC.out).mono ?_
  rintro e w15 ⟨r, rfl, hr, hbn⟩
  have HR1 := Lib.hid hr
  have HB := Lib.hid (HB2.out.go hbn)
  have HG15 := Lib.hid (HG14.out.go hbn HG14.out.1)
  have HK15 := Lib.hid (HK14.out.go hbn HK14.out.1)
  have HD15 := Lib.hid (HD14.out.below hbn (Nat.le_refl _))
  have HE15 := Lib.hid (HE14.out.below hbn (Nat.le_refl _))
  clear hr hbn HB2 HG14 HK14 HD14 HE14
  cases r
  case true =>
    go_wp2_with fail
    go_ret
    exact ⟨rfl, HB.out.bel⟩
  go_wp2_with fail
  refine (path_under_ref q p B A m2 m c2 c w15 HM2.out HM.out (HQ.out.below HB.out.bel (Nat.le_refl _)) (HP.out.below HB.out.bel (Nat.le_refl _)) (by have := HM2.out; omega) hpm HPC.out).mono ?_
  rintro e w16 ⟨r, rfl, hr, hbn⟩
  have HR2 := Lib.hid hr
  have HB2 := Lib.hid (HB.out.go hbn)
  have HG16 := Lib.hid (HG15.out.go hbn HG15.out.1)
  have HK16 := Lib.hid (HK15.out.go hbn HK15.out.1)
  have HD16 := Lib.hid (HD15.out.below hbn (Nat.le_refl _))
  have HE16 := Lib.hid (HE15.out.below hbn (Nat.le_refl _))
  clear hr hbn HB HG15 HK15 HD15 HE15
  cases r
  case true =>
    go_wp2_with fail
    go_ret
    exact ⟨rfl, HB2.out.bel⟩
  obtain ⟨rfl, rfl⟩ := HEQ.out (fun h => absurd (HR1.out.2 h) (by decide)) (fun h => absurd (HR2.out.2 h) (by decide))
  clear HEQ HR1 HR2
  have s0 := HG16.out.2 0 _ rfl
  have s1 := HG16.out.2 1 _ rfl
  have s2 := HG16.out.2 2 _ rfl
  have s3 := HG16.out.2 3 _ rfl
  have s4 := HG16.out.2 4 _ rfl
  have t0 := HK16.out.2 0 _ rfl
  have t1 := HK16.out.2 1 _ rfl
  have t2 := HK16.out.2 2 _ rfl
  have t3 := HK16.out.2 3 _ rfl
  have t4 := HK16.out.2 4 _ rfl
  cases ok1
  all_goals
    go_wp2_with fail
    refine (same_ref d1 d1 _ _ g1 g2 w16 HD16.out HE16.out).mono ?_
    rintro e w17 ⟨r, rfl, hr, hbn⟩
    obtain rfl : r = true := hr.2 rfl
    clear hr
    go_wp2_with fail
    go_ret
    exact ⟨rfl, bel2 HB2.out.bel hbn⟩
theorem own : ownKnob Try.prog.godebug = none := by kernel_rfl
theorem laidOut : laidOutB Try.prog = true := by kernel_rfl
set_option maxRecDepth 100000 in
theorem lifted (os : Os) (started : os.Started) (H : Type) (enc : TypeId × Value → H) :
    ReturnsInHanded {} Try.checked os 13 .any (Rows.pathKeepsSpec.pre6 enc Try.prog Try.f13 Rows.pathKeepsRow.domain false) (Rows.pathKeepsSpec.post enc Try.prog Try.f13 false true false false) := by
  refine returnsInHanded_of_change (C := Try.checked) own started (by kernel_rfl) Try.func13
    (ChangeSpec.witness6 (enc := enc) (C := Try.checked) false ⟨#[], #[.agg #[.int .i64 0, .int .i64 0, .string ByteArray.empty, .slice none 0 0, .slice none 0 0], .agg #[.int .i64 0, .int .i64 0, .string ByteArray.empty, .slice none 0 0, .slice none 0 0], .agg #[.slice none 0 0, .slice none 0 0]], []⟩ 8 (by kernel_rfl) (by kernel_rfl) (by kernel_rfl) (by kernel_rfl)) ?_
  intro W base args ds gs before hval0 hW hcnd _
  have hval : ∀ (j : Nat) t v, Try.f13.params[j]? = some t → args[j]? = some v → Value.okWide Try.prog W .any base t v := hval0
  have hW' := hW
  obtain ⟨p, q, hA0, hV, rfl, hfz, hnd⟩ := hW
  have hA : DataW.TrodAll enc Try.prog W 0 (fun _ => true) true Try.f13.params.toList args.toList ds p := hA0
  rw [Try.params13] at hA hval
  obtain ⟨v0, vs0, d0, ds0, p0, q0, hargs, rfl, rfl, h0, r0⟩ := trodAll_cons hA
  obtain ⟨v1, vs1, d1, ds1, p1, q1, rfl, rfl, rfl, h1, r1⟩ := trodAll_cons r0
  obtain ⟨v2, vs2, d2, ds2, p2, q2, rfl, rfl, rfl, h2, r2⟩ := trodAll_cons r1
  obtain ⟨rfl, rfl, rfl⟩ := trodAll_nil r2
  obtain rfl : args = #[v0, v1, v2] := by cases args; simp_all
  obtain ⟨rfl, rfl⟩ := trodVars_none hV
  have k0 := h0
  have lt0 : ∀ x ∈ p0, x.block < W.heap.size := by obtain ⟨m, hm⟩ := k0; exact DataW.trod_lt m _ _ _ hm
  obtain ⟨a0, g0, rfl, w0⟩ := open_value (hval 0 25 v0 rfl rfl) h0
  have k1 := h1
  have lt1 : ∀ x ∈ p1, x.block < W.heap.size := by obtain ⟨m, hm⟩ := k1; exact DataW.trod_lt m _ _ _ hm
  obtain ⟨a1, g1, rfl, w1⟩ := open_value (hval 1 25 v1 rfl rfl) h1
  have k2 := h2
  have lt2 : ∀ x ∈ p2, x.block < W.heap.size := by obtain ⟨m, hm⟩ := k2; exact DataW.trod_lt m _ _ _ hm
  obtain ⟨a2, n2, c2, z2, b2, m2, e2, y2, rfl, w2, x2⟩ := open_paths2 (hval 2 63 v2 rfl rfl) h2
  clear hA0 hval0
  refine (walk W a0 g0 w0 a1 g1 w1 a2 n2 c2 z2 b2 m2 e2 y2 w2 x2).mono fun e W' ⟨he, bel⟩ => ?_
  subst he
  exact ⟨_, rfl, _, _, _, [], _, [], hW', trodAll_mk1 (shut_bool Try.underlying4 _), (trodAll_cons_mk (Below.trod laidOut (by kernel_rfl) (of_decide_eq_true (by kernel_rfl)) k0 bel lt0) (trodAll_cons_mk (Below.trod laidOut (by kernel_rfl) (of_decide_eq_true (by kernel_rfl)) k1 bel lt1) (trodAll_cons_mk (Below.trod laidOut (by kernel_rfl) (of_decide_eq_true (by kernel_rfl)) k2 bel lt2) trodAll_mk0))), rfl, bel.frame _, fun h => by cases h⟩
theorem over : Rows.pathKeepsRow.holds Try.pinned (OpenSpec.ofChange Rows.pathKeepsSpec) :=
  OpenClaim.holds_of_wide 13 Try.f13 rfl rfl rfl rfl rfl rfl rfl ⟨rfl, rfl, rfl, rfl, rfl⟩ rfl rfl rfl rfl rfl (by kernel_rfl) Try.func13 (by kernel_rfl)
    (of_decide_eq_true (by kernel_rfl)) (by unfold Func.isWrapper; first | (rw [if_pos (by decide +kernel)]; kernel_rfl) | (rw [if_neg (by decide +kernel)]; exact ⟨rfl, rfl⟩))
    (fun os started H enc _ => lifted os started H enc)
theorem proved : Rows.PathKeepsSaid := over
end Go.Proofs.Ytmdlcalnncncjaa.pathKeeps
namespace Go.Proofs.Ytmdlcalnncncjaa
theorem pathKeeps_holds : Rows.PathKeepsSaid := pathKeeps.proved
#print axioms pathKeeps_holds
end Go.Proofs.Ytmdlcalnncncjaa
