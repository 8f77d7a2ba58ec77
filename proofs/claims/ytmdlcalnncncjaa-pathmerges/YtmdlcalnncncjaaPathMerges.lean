/- 'cascadelaw06.PathMerges' returns true at every input, and leaves it as it was: what path.Merge answers is the document's own answer. No condition. -/
import Derived.Test.YtmdlcalnncncjaaRows
import Derived.Test.YtmdlcalnncncjaaJoined3PathMerges
import Derived.ProofKit
import Derived.OpenShut
import Derived.ShutString
import Derived.ChangeOld
import Derived.BigQuiet
set_option linter.unusedVariables false
set_option linter.unusedSimpArgs false
namespace Go.Proofs.Ytmdlcalnncncjaa.pathMerges
open Go.ChangeShapes Go.WideShapes Go.ChangeAt Go.RowKit
open Go.ChangeMaps (open_string shut_string)
theorem bel2 {w w1 w2 : World} (h : Below w.heap.size w w1) (k : Below w1.heap.size w1 w2) : Below w.heap.size w w2 := h.trans (k.mono h.size)
def ends (W : World) (e : Ending) (w' : World) : Prop := e = .returned (.bool true) ∧ Below W.heap.size W w'
/-- The value's box, and the patch's. -/
structure B2 (W : World) (h ho : Hd) (K : Option Addr) (n kc : Nat) (wr : World) : Prop where
  bel : Below W.heap.size W wr
  bv : Bx wr W.heap.size h
  bo : Bx wr (W.heap.size + 1) ho
  bk : wr.cell? ⟨W.heap.size + 1, 5, none⟩ = some (.slice K n kc)
theorem B2.go {W wr w' : World} {h ho : Hd} {K : Option Addr} {n kc : Nat} (H : B2 W h ho K n kc wr) (hb : Below wr.heap.size wr w') : B2 W h ho K n kc w' := ⟨bel2 H.bel hb, H.bv.go hb H.bv.1, H.bo.go hb H.bo.1, (hb.cell (p := ⟨W.heap.size + 1, 5, none⟩) H.bo.1).trans H.bk⟩
theorem B2.start (W : World) (h ho : Hd) (K : Option Addr) (n kc : Nat) : B2 W h ho K n kc ((W.alloc (Obj.cells #[.int .i64 h.k, .int .i64 h.n, .string h.s, .slice h.A h.la h.lc, .slice h.F h.lf h.fc] 25)).alloc (Obj.cells #[.int .i64 ho.k, .int .i64 ho.n, .string ho.s, .slice ho.A ho.la ho.lc, .slice ho.F ho.lf ho.fc, .slice K n kc] 66)) := by
  have h9 := heap_alloc_new (W.alloc (Obj.cells #[.int .i64 h.k, .int .i64 h.n, .string h.s, .slice h.A h.la h.lc, .slice h.F h.lf h.fc] 25)) (Obj.cells #[.int .i64 ho.k, .int .i64 ho.n, .string ho.s, .slice ho.A ho.la ho.lc, .slice ho.F ho.lf ho.fc, .slice K n kc] 66)
  rw [World.size_alloc] at h9
  refine ⟨two_allocs _ _ _, (Bx.start W h 25).alloc _, ⟨by simp, fun j c hj => ?_⟩, ?_⟩
  · rw [cell_of_row _ (W.heap.size + 1) _ _ 66 (0, 0) h9]
    have hj5 : j < 5 := (List.getElem?_eq_some_iff.1 hj).1
    match j, hj5 with
    | 0, _ => exact hj
    | 1, _ => exact hj
    | 2, _ => exact hj
    | 3, _ => exact hj
    | 4, _ => exact hj
  · rw [cell_of_row _ (W.heap.size + 1) _ _ 66 (0, 0) h9]
    rfl
set_option maxHeartbeats 8000000 in
set_option maxRecDepth 100000 in
theorem walk (W : World) (a : Va) (h : Hd) (H : Lies W (fun _ => True) a h) (A : Option Addr) (m c : Nat) (p : List St) (hp : IsPath W A m c p) (o : Va) (ho : Hd) (HO : Lies W (fun _ => True) o ho) (K : Option Addr) (n kc : Nat) (keys : List ByteArray) (hs : IsStrs W K n keys) : Calls Try.prog 14 #[h.val, .slice A m c, .agg #[.int .i64 ho.k, .int .i64 ho.n, .string ho.s, .slice ho.A ho.la ho.lc, .slice ho.F ho.lf ho.fc, .slice K n kc]] W fun e w' => e = .returned (.bool true) ∧ Below W.heap.size W w' := by
  show Calls Try.prog 14 #[h.val, .slice A m c, .agg #[.int .i64 ho.k, .int .i64 ho.n, .string ho.s, .slice ho.A ho.la ho.lc, .slice ho.F ho.lf ho.fc, .slice K n kc]] W (ends W)
  obtain ⟨hK, hkm, hkz⟩ := hs
  obtain rfl : n = keys.length := by have := hK.1; simpa using this.symm
  have HK := Lib.hid hK
  have HKZ := Lib.hid hkz
  obtain ⟨hm, hpc, hpm, hpA⟩ := hp
  have HP := Lib.hid hpA
  have HM := Lib.hid hm
  have HH := Lib.hid H
  have HOO := Lib.hid HO
  have hmc : m ≤ c := by omega
  have HB0 := Lib.hid (B2.start W h ho K keys.length kc)
  have K0 := Lib.hid (awake6 ((W.alloc (Obj.cells #[.int .i64 h.k, .int .i64 h.n, .string h.s, .slice h.A h.la h.lc, .slice h.F h.lf h.fc] 25)).alloc (Obj.cells #[.int .i64 ho.k, .int .i64 ho.n, .string ho.s, .slice ho.A ho.la ho.lc, .slice ho.F ho.lf ho.fc, .slice K keys.length kc] 66)))
  have hkm2 : keys.length ≤ 9223372036854775807 := by unfold maxLen at hkm; omega
  clear H HO hpA hm hpc hK hkz
  unfold Hd.val at *
  go_enter Try.func14, Try.ntmps14
  go_wp2_with fail
  refine K0.out.mono ?_
  rintro e w1 ⟨rfl, hbn⟩
  have HB2 := Lib.hid (HB0.out.go hbn)
  clear hbn HB0 K0
  have q0 := HB2.out.bv.2 0 _ rfl
  have q1 := HB2.out.bv.2 1 _ rfl
  have q2 := HB2.out.bv.2 2 _ rfl
  have q3 := HB2.out.bv.2 3 _ rfl
  have q4 := HB2.out.bv.2 4 _ rfl
  go_wp2_with fail
  refine (few_ref a _ h w1 (HH.out.below HB2.out.bel (Nat.le_refl _))).mono ?_
  rintro e w2 ⟨r, rfl, hr, hbn⟩
  have HB := Lib.hid (HB2.out.go hbn)
  have HR := Lib.hid hr
  clear hr hbn HB2 q0 q1 q2 q3 q4
  cases r
  · go_wp2_with fail
    refine (awake6 w2).mono ?_
    rintro e wz ⟨rfl, hbz⟩
    go_wp2_with fail
    go_ret
    exact ⟨rfl, bel2 HB.out.bel hbz⟩
  obtain ⟨hsh, hcn⟩ := HR.out rfl
  have HSH := Lib.hid hsh
  have HB2 := HB
  clear hsh HR HB
  have q0 := HB2.out.bo.2 0 _ rfl
  have q1 := HB2.out.bo.2 1 _ rfl
  have q2 := HB2.out.bo.2 2 _ rfl
  have q3 := HB2.out.bo.2 3 _ rfl
  have q4 := HB2.out.bo.2 4 _ rfl
  go_wp2_with fail
  refine (few_ref o _ ho w2 (HOO.out.below HB2.out.bel (Nat.le_refl _))).mono ?_
  rintro e w3 ⟨r, rfl, hr, hbn⟩
  have HB := Lib.hid (HB2.out.go hbn)
  have HR := Lib.hid hr
  clear hr hbn HB2 q0 q1 q2 q3 q4
  cases r
  · go_wp2_with fail
    refine (awake6 w3).mono ?_
    rintro e wz ⟨rfl, hbz⟩
    go_wp2_with fail
    go_ret
    exact ⟨rfl, bel2 HB.out.bel hbz⟩
  obtain ⟨hosh, hocn⟩ := HR.out rfl
  have HSO := Lib.hid hosh
  have HB2 := HB
  clear hosh HR HB
  go_wp2_with fail
  refine (fewS_any p A m c w3 HM.out (HP.out.below HB2.out.bel (Nat.le_refl _)) hpm).mono ?_
  rintro e w4 ⟨f1, rfl, hf1, hbn⟩
  have HB := Lib.hid (HB2.out.go hbn)
  have HF1 := Lib.hid hf1
  clear hf1 hbn HB2
  cases f1
  · go_wp2_with fail
    refine (awake6 w4).mono ?_
    rintro e wz ⟨rfl, hbz⟩
    go_wp2_with fail
    go_ret
    exact ⟨rfl, bel2 HB.out.bel hbz⟩
  have FP := Lib.hid (HF1.out rfl)
  have hp4 : m ≤ 40 := by have := FP.out.1; have := HM.out; omega
  have HKS := Lib.hid (show ∀ s ∈ p, s.k.size ≤ 4294967296 from fun s hs => by have := FP.out.2 s hs; omega)
  clear HF1
  have b5 := HB.out.bk
  by_cases hk40 : 40 < keys.length
  · go_wp2_with fail
    refine (awake6 w4).mono ?_
    rintro e wz ⟨rfl, hbz⟩
    go_wp2_with fail
    go_ret
    exact ⟨rfl, bel2 HB.out.bel hbz⟩
  have q0 := HB.out.bv.2 0 _ rfl
  have q1 := HB.out.bv.2 1 _ rfl
  have q2 := HB.out.bv.2 2 _ rfl
  have q3 := HB.out.bv.2 3 _ rfl
  have q4 := HB.out.bv.2 4 _ rfl
  have y0 := HB.out.bo.2 0 _ rfl
  have y1 := HB.out.bo.2 1 _ rfl
  have y2 := HB.out.bo.2 2 _ rfl
  have y3 := HB.out.bo.2 3 _ rfl
  have y4 := HB.out.bo.2 4 _ rfl
  go_wp2_with fail
  refine (merge_prog a o _ _ h ho w4 A m c p K kc keys (HH.out.below HB.out.bel (Nat.le_refl _)) (HOO.out.below HB.out.bel (Nat.le_refl _)) HSH.out hcn HSO.out hocn (HP.out.below HB.out.bel (Nat.le_refl _)) HM.out hmc (by omega) (HK.out.below HB.out.bel (Nat.le_refl _)) (by omega) HKZ.out).mono ?_
  rintro e w6 ⟨b, hw, er, rfl, hbn, hl6, ho6⟩
  have HB2 := Lib.hid (HB.out.go hbn)
  have HL6 := Lib.hid hl6
  have HO6 := Lib.hid ho6
  clear hbn hl6 ho6 HB q0 q1 q2 q3 q4 y0 y1 y2 y3 y4 b5
  have HB := HB2
  clear HB2
  go_upto_region 4 with fail
  have hbn := one_alloc w6 (Obj.cells #[.int .i64 hw.k, .int .i64 hw.n, .string hw.s, .slice hw.A hw.la hw.lc, .slice hw.F hw.lf hw.fc] 25)
  have hcx := Bx.start w6 hw 25
  generalize w6.alloc (Obj.cells #[.int .i64 hw.k, .int .i64 hw.n, .string hw.s, .slice hw.A hw.la hw.lc, .slice hw.F hw.lf hw.fc] 25) = w7 at hbn hcx ⊢
  have HB2 := Lib.hid (HB.out.go hbn)
  have HW7 := Lib.hid hcx
  have HL7 := Lib.hid (HL6.out.below hbn (Nat.le_refl _))
  clear hbn hcx HB HL6
  have b5 := HB2.out.bk
  have q0 := HB2.out.bv.2 0 _ rfl
  have q1 := HB2.out.bv.2 1 _ rfl
  have q2 := HB2.out.bv.2 2 _ rfl
  have q3 := HB2.out.bv.2 3 _ rfl
  have q4 := HB2.out.bv.2 4 _ rfl
  have y0 := HB2.out.bo.2 0 _ rfl
  have y1 := HB2.out.bo.2 1 _ rfl
  have y2 := HB2.out.bo.2 2 _ rfl
  have y3 := HB2.out.bo.2 3 _ rfl
  have y4 := HB2.out.bo.2 4 _ rfl
  go_wp2_with fail
  refine (merge_ref a o _ _ h ho w7 A m c p K kc keys (HH.out.below HB2.out.bel (Nat.le_refl _)) (HOO.out.below HB2.out.bel (Nat.le_refl _)) HSH.out hcn HSO.out hocn (HP.out.below HB2.out.bel (Nat.le_refl _)) HM.out hmc (by omega) HKS.out (HK.out.below HB2.out.bel (Nat.le_refl _)) (by omega) HKZ.out).mono ?_
  rintro e w8 ⟨b2, hy, er2, rfl, hbn, hl8, ho8⟩
  obtain ⟨rfl, rfl⟩ := MrgC.same HO6.out ho8
  have HB := Lib.hid (HB2.out.go hbn)
  have HW8 := Lib.hid (HW7.out.go hbn HW7.out.1)
  have HL8 := Lib.hid (HL7.out.below hbn (Nat.le_refl _))
  have HLY := Lib.hid hl8
  clear hbn hl8 ho8 HB2 HW7 HL7 HO6 q0 q1 q2 q3 q4 y0 y1 y2 y3 y4 b5
  go_upto_region 5 with fail
  have hbn := one_alloc w8 (Obj.cells #[.int .i64 hy.k, .int .i64 hy.n, .string hy.s, .slice hy.A hy.la hy.lc, .slice hy.F hy.lf hy.fc] 25)
  have hcx := Bx.start w8 hy 25
  generalize w8.alloc (Obj.cells #[.int .i64 hy.k, .int .i64 hy.n, .string hy.s, .slice hy.A hy.la hy.lc, .slice hy.F hy.lf hy.fc] 25) = w9 at hbn hcx ⊢
  have HB2 := Lib.hid (HB.out.go hbn)
  have HY9 := Lib.hid hcx
  have HW9 := Lib.hid (HW8.out.go hbn HW8.out.1)
  have HL9 := Lib.hid (HL8.out.below hbn (Nat.le_refl _))
  have HLY9 := Lib.hid (HLY.out.below hbn (Nat.le_refl _))
  clear hbn hcx HB HW8 HL8 HLY
  have q0 := HW9.out.2 0 _ rfl
  have q1 := HW9.out.2 1 _ rfl
  have q2 := HW9.out.2 2 _ rfl
  have q3 := HW9.out.2 3 _ rfl
  have q4 := HW9.out.2 4 _ rfl
  have s0 := HY9.out.2 0 _ rfl
  have s1 := HY9.out.2 1 _ rfl
  have s2 := HY9.out.2 2 _ rfl
  have s3 := HY9.out.2 3 _ rfl
  have s4 := HY9.out.2 4 _ rfl
  go_wp2_with fail
  refine (same_ref b b _ _ hw hy w9 HL9.out HLY9.out).mono ?_
  rintro e w10 ⟨r, rfl, hr, hbn⟩
  obtain rfl : r = true := hr.2 rfl
  clear hr
  go_wp2_with fail
  go_ret
  exact ⟨rfl, bel2 HB2.out.bel hbn⟩
theorem own : ownKnob Try.prog.godebug = none := by kernel_rfl
theorem laidOut : laidOutB Try.prog = true := by kernel_rfl
set_option maxRecDepth 100000 in
theorem lifted (os : Os) (started : os.Started) (H : Type) (enc : TypeId × Value → H) :
    ReturnsInHanded {} Try.checked os 14 .any (Rows.pathMergesSpec.pre6 enc Try.prog Try.f14 Rows.pathMergesRow.domain false) (Rows.pathMergesSpec.post enc Try.prog Try.f14 false true false false) := by
  refine returnsInHanded_of_change (C := Try.checked) own started (by kernel_rfl) Try.func14
    (ChangeSpec.witness6 (enc := enc) (C := Try.checked) false ⟨#[], #[.agg #[.int .i64 0, .int .i64 0, .string ByteArray.empty, .slice none 0 0, .slice none 0 0], .slice none 0 0, .agg #[.int .i64 0, .int .i64 0, .string ByteArray.empty, .slice none 0 0, .slice none 0 0, .slice none 0 0]], []⟩ 8 (by kernel_rfl) (by kernel_rfl) (by kernel_rfl) (by kernel_rfl)) ?_
  intro W base args ds gs before hval0 hW hcnd _
  have hval : ∀ (j : Nat) t v, Try.f14.params[j]? = some t → args[j]? = some v → Value.okWide Try.prog W .any base t v := hval0
  have hW' := hW
  obtain ⟨p, q, hA0, hV, rfl, hfz, hnd⟩ := hW
  have hA : DataW.TrodAll enc Try.prog W 0 (fun _ => true) true Try.f14.params.toList args.toList ds p := hA0
  rw [Try.params14] at hA hval
  obtain ⟨v0, vs0, d0, ds0, p0, q0, hargs, rfl, rfl, h0, r0⟩ := trodAll_cons hA
  obtain ⟨v1, vs1, d1, ds1, p1, q1, rfl, rfl, rfl, h1, r1⟩ := trodAll_cons r0
  obtain ⟨v2, vs2, d2, ds2, p2, q2, rfl, rfl, rfl, h2, r2⟩ := trodAll_cons r1
  obtain ⟨rfl, rfl, rfl⟩ := trodAll_nil r2
  obtain rfl : args = #[v0, v1, v2] := by cases args; simp_all
  obtain ⟨rfl, rfl⟩ := trodVars_none hV
  have k0 := h0
  have lt0 : ∀ x ∈ p0, x.block < W.heap.size := by obtain ⟨m, hm⟩ := k0; exact DataW.trod_lt m _ _ _ hm
  obtain ⟨a0, g0, rfl, w0⟩ := open_value (hval 0 25 v0 rfl rfl) h0
  have k1 := h1
  have lt1 : ∀ x ∈ p1, x.block < W.heap.size := by obtain ⟨m, hm⟩ := k1; exact DataW.trod_lt m _ _ _ hm
  obtain ⟨a1, n1, c1, z1, rfl, w1⟩ := open_path (hval 1 50 v1 rfl rfl) h1
  have k2 := h2
  have lt2 : ∀ x ∈ p2, x.block < W.heap.size := by obtain ⟨m, hm⟩ := k2; exact DataW.trod_lt m _ _ _ hm
  obtain ⟨a2, g2, b2, l2, c2, z2, rfl, w2, x2⟩ := open_patch (hval 2 66 v2 rfl rfl) h2
  clear hA0 hval0
  refine (walk W a0 g0 w0 a1 n1 c1 z1 w1 a2 g2 w2 b2 l2 c2 z2 x2).mono fun e W' ⟨he, bel⟩ => ?_
  subst he
  exact ⟨_, rfl, _, _, _, [], _, [], hW', trodAll_mk1 (shut_bool Try.underlying4 _), (trodAll_cons_mk (Below.trod laidOut (by kernel_rfl) (of_decide_eq_true (by kernel_rfl)) k0 bel lt0) (trodAll_cons_mk (Below.trod laidOut (by kernel_rfl) (of_decide_eq_true (by kernel_rfl)) k1 bel lt1) (trodAll_cons_mk (Below.trod laidOut (by kernel_rfl) (of_decide_eq_true (by kernel_rfl)) k2 bel lt2) trodAll_mk0))), rfl, bel.frame _, fun h => by cases h⟩
theorem over : Rows.pathMergesRow.holds Try.pinned (OpenSpec.ofChange Rows.pathMergesSpec) :=
  OpenClaim.holds_of_wide 14 Try.f14 rfl rfl rfl rfl rfl rfl rfl ⟨rfl, rfl, rfl, rfl, rfl⟩ rfl rfl rfl rfl rfl (by kernel_rfl) Try.func14 (by kernel_rfl)
    (of_decide_eq_true (by kernel_rfl)) (by unfold Func.isWrapper; first | (rw [if_pos (by decide +kernel)]; kernel_rfl) | (rw [if_neg (by decide +kernel)]; exact ⟨rfl, rfl⟩))
    (fun os started H enc _ => lifted os started H enc)
theorem proved : Rows.PathMergesSaid := over
end Go.Proofs.Ytmdlcalnncncjaa.pathMerges
namespace Go.Proofs.Ytmdlcalnncncjaa
theorem pathMerges_holds : Rows.PathMergesSaid := pathMerges.proved
#print axioms pathMerges_holds
end Go.Proofs.Ytmdlcalnncncjaa
