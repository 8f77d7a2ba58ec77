/- 'cascadelaw03.TreeOwn' returns true at every input, and leaves it as it was: what tree.Clone, tree.Get and tree.Ordered answer is new: whatever is written into it, the value stays. No condition. -/
import Derived.Test.YtalhkbcbfpjhgaaRows
import Derived.Test.YtalhkbcbfpjhgaaTOrdNil
import Derived.Test.YtalhkbcbfpjhgaaTSpoilW
import Derived.Test.YtalhkbcbfpjhgaaTSrtW
import Derived.Test.YtalhkbcbfpjhgaaTGet
import Derived.ProofKit
import Derived.OpenShut
import Derived.ShutString
import Derived.ChangeOld
set_option linter.unusedVariables false
set_option linter.unusedSimpArgs false
namespace Go.Proofs.Ytalhkbcbfpjhgaa.treeOwn
open Go.ChangeShapes Go.WideShapes Go.ChangeAt Go.RowKit
open Go.ChangeMaps (open_string shut_string)
theorem Below_next {w w1 w2 : World} (h : Below w.heap.size w w1) (k : Below w1.heap.size w1 w2) : Below w.heap.size w w2 := h.trans (k.mono h.size)
def ends (W : World) (e : Ending) (w' : World) : Prop := e = .returned (.bool true) ∧ Below W.heap.size W w'
/-- A value that lies below its box. -/
structure VB (w : World) (N : Nat) (a : Va) (h : Hd) : Prop where
  box : Bx w N h
  lie : Lies w (fun b => b < N) a h
theorem VB.go {w w' : World} {N : Nat} {a : Va} {h : Hd} (H : VB w N a h) (hb : Below w.heap.size w w') : VB w' N a h := ⟨H.box.go hb H.box.1, H.lie.below hb (Nat.le_refl _)⟩
theorem VB.out {w w' : World} {N : Nat} {a : Va} {h : Hd} {T : Nat → Prop} (H : VB w N a h) (ho : OutK T w w') (hT : ∀ b, T b → N + 1 ≤ b) : VB w' N a h := by
  have h1 := H.box.1
  have h2 := ho.size
  refine ⟨⟨by omega, fun j c hc => ?_⟩, Lies.keep (fun p (hp : p.block < N) hl => World.cell?_of_block (ho.block _ hl (fun q => by have := hT _ q; omega))) (fun b hb _ => hb) _ _ H.lie⟩
  exact (World.cell?_of_block (a := ⟨N, j, none⟩) (ho.block N h1 (fun q => by have := hT _ q; omega))).trans (H.box.2 j c hc)
/-- A value of one's own, and its box. -/
structure OV (w : World) (lo N : Nat) (a : Va) (T : Nat → Prop) (h : Hd) : Prop where
  box : Bx w N h
  own : Own w a T h
  rng : ∀ x, T x → lo ≤ x ∧ x < N
  le : lo ≤ N
theorem OV.go {w w' : World} {lo N : Nat} {a : Va} {T : Nat → Prop} {h : Hd} (H : OV w lo N a T h) (hb : Below w.heap.size w w') : OV w' lo N a T h :=
  ⟨H.box.go hb H.box.1, Own.keep _ _ _ H.own (fun b hT => hb.block b (by have := H.rng b hT; have := H.box.1; omega)), H.rng, H.le⟩
theorem OV.out {w w' : World} {lo N : Nat} {a : Va} {T T' : Nat → Prop} {h : Hd} (H : OV w lo N a T h) (ho : OutK T' w w') (hT : ∀ b, T' b → b < lo) : OV w' lo N a T h := by
  have h1 := H.box.1
  have h2 := ho.size
  have h3 := H.le
  refine ⟨⟨by omega, fun j c hc => ?_⟩, Own.keep _ _ _ H.own (fun b hb => ho.block b (by have := H.rng b hb; omega) (fun q => by have := hT b q; have := H.rng b hb; omega)), H.rng, H.le⟩
  exact (World.cell?_of_block (a := ⟨N, j, none⟩) (ho.block N h1 (fun q => by have := hT _ q; omega))).trans (H.box.2 j c hc)
theorem OV.start {w0 w : World} {a : Va} {T : Nat → Prop} {h : Hd} (hown : Own w a T h) (hT : ∀ x, T x → w0.heap.size ≤ x ∧ x < w.heap.size) (hb : Below w0.heap.size w0 w) : OV (w.alloc (Obj.cells #[.int .i64 h.k, .int .i64 h.n, .string h.s, .slice h.A h.la h.lc, .slice h.F h.lf h.fc] 25)) w0.heap.size w.heap.size a T h :=
  ⟨Bx.start w h 25, Own.keep _ _ _ hown (fun b q => Below.heap_alloc _ _ _ (hT b q).2), hT, hb.size⟩
theorem OutK.belowOf {T : Nat → Prop} {w w' : World} {B : Nat} (h : OutK T w w') (hT : ∀ b, T b → B ≤ b) (hB : B ≤ w.heap.size) : Below B w w' := ⟨h.os, h.tape, h.output, h.size, fun k hk => h.block k (by omega) (fun q => by have := hT k q; omega)⟩
/-- What the last statement loads. -/
abbrev S2 (N : Nat) (h : Hd) (M : Nat) (hs : Hd) (w' : World) : Prop := w'.cell? ⟨N, 0, none⟩ = some (.int .i64 h.k) ∧ w'.cell? ⟨N, 1, none⟩ = some (.int .i64 h.n) ∧ w'.cell? ⟨N, 2, none⟩ = some (.string h.s) ∧ w'.cell? ⟨N, 3, none⟩ = some (.slice h.A h.la h.lc) ∧ w'.cell? ⟨N, 4, none⟩ = some (.slice h.F h.lf h.fc) ∧ w'.cell? ⟨M, 0, none⟩ = some (.int .i64 hs.k) ∧ w'.cell? ⟨M, 1, none⟩ = some (.int .i64 hs.n) ∧ w'.cell? ⟨M, 2, none⟩ = some (.string hs.s) ∧ w'.cell? ⟨M, 3, none⟩ = some (.slice hs.A hs.la hs.lc) ∧ w'.cell? ⟨M, 4, none⟩ = some (.slice hs.F hs.lf hs.fc)
theorem S2.of {w : World} {N M : Nat} {h hs : Hd} (H : Bx w N h) (K : Bx w M hs) : S2 N h M hs w := ⟨H.2 0 _ rfl, H.2 1 _ rfl, H.2 2 _ rfl, H.2 3 _ rfl, H.2 4 _ rfl, K.2 0 _ rfl, K.2 1 _ rfl, K.2 2 _ rfl, K.2 3 _ rfl, K.2 4 _ rfl⟩
set_option maxHeartbeats 4000000 in
set_option maxRecDepth 100000 in
theorem walk (W : World) (a : Va) (h : Hd) (H : Lies W (fun _ => True) a h) (key : ByteArray) (hkm : key.size ≤ maxLen) : Calls Try.prog 8 #[h.val, .string key] W fun e w' => e = .returned (.bool true) ∧ Below W.heap.size W w' := by
  show Calls Try.prog 8 #[h.val, .string key] W (ends W)
  obtain ⟨k, n, s, l, ks, f⟩ := a
  have H0 : Lies W (fun b => b < W.heap.size) (.mk k n s l ks f) h := Lies.keep (fun _ _ _ => rfl) (fun _ _ hb => hb) _ _ H
  have HV0 : Hid (VB (W.alloc (Obj.cells #[.int .i64 h.k, .int .i64 h.n, .string h.s, .slice h.A h.la h.lc, .slice h.F h.lf h.fc] 25)) W.heap.size (.mk k n s l ks f) h) := Lib.hid ⟨Bx.start W h 25, H0.below (one_alloc W _) (Nat.le_refl _)⟩
  have HB0 := Lib.hid (one_alloc W (Obj.cells #[.int .i64 h.k, .int .i64 h.n, .string h.s, .slice h.A h.la h.lc, .slice h.F h.lf h.fc] 25))
  clear H H0
  have hw0 := awake_any (W.alloc (Obj.cells #[.int .i64 h.k, .int .i64 h.n, .string h.s, .slice h.A h.la h.lc, .slice h.F h.lf h.fc] 25))
  have HW0 := Lib.hid hw0
  clear hw0
  unfold Hd.val at *
  go_enter Try.func8, Try.ntmps8
  go_wp2_with fail
  refine HW0.out.mono ?_
  rintro e w1 ⟨rfl, hb1⟩
  have HV1 := Lib.hid (HV0.out.go hb1)
  have HB1 := Lib.hid (Below_next HB0.out hb1)
  clear hb1 HV0 HW0 HB0
  have q0 := HV1.out.box.2 0 _ rfl
  have q1 := HV1.out.box.2 1 _ rfl
  have q2 := HV1.out.box.2 2 _ rfl
  have q3 := HV1.out.box.2 3 _ rfl
  have q4 := HV1.out.box.2 4 _ rfl
  go_wp2_with fail
  refine (few_ref _ _ h w1 HV1.out.lie).mono ?_
  rintro e w2 ⟨r, rfl, hr, hb2⟩
  have HV2 := Lib.hid (HV1.out.go hb2)
  have HB2 := Lib.hid (Below_next HB1.out hb2)
  have HR := Lib.hid hr
  clear q0 q1 q2 q3 q4 hb2 hr HV1 HB1
  cases r
  · go_wp2_with fail
    refine (awake_any w2).mono ?_
    rintro e wz ⟨rfl, hbz⟩
    go_wp2_with fail
    go_ret
    exact ⟨rfl, Below_next HB2.out hbz⟩
  obtain ⟨hsh, hcn⟩ := HR.out rfl
  have HSH := Lib.hid hsh
  have HCN := Lib.hid hcn
  clear hsh HR hcn
  have q0 := HV2.out.box.2 0 _ rfl
  have q1 := HV2.out.box.2 1 _ rfl
  have q2 := HV2.out.box.2 2 _ rfl
  have q3 := HV2.out.box.2 3 _ rfl
  have q4 := HV2.out.box.2 4 _ rfl
  go_wp2_with fail
  refine (rightref _ _ h w2 HV2.out.lie HSH.out).mono ?_
  rintro e w3 ⟨r, rfl, hr, hb3⟩
  have HV3 := Lib.hid (HV2.out.go hb3)
  have HB3 := Lib.hid (Below_next HB2.out hb3)
  have HR := Lib.hid hr
  clear q0 q1 q2 q3 q4 hb3 hr HV2 HB2
  cases r
  · go_wp2_with fail
    refine (awake_any w3).mono ?_
    rintro e wz ⟨rfl, hbz⟩
    go_wp2_with fail
    go_ret
    exact ⟨rfl, Below_next HB3.out hbz⟩
  have HRI := Lib.hid (HR.out.1 rfl)
  clear HR
  by_cases hk5 : 500 < key.size
  · go_wp2_with fail
    refine (awake_any w3).mono ?_
    rintro e wz ⟨rfl, hbz⟩
    go_wp2_with fail
    go_ret
    exact ⟨rfl, Below_next HB3.out hbz⟩
  have q0 := HV3.out.box.2 0 _ rfl
  have q1 := HV3.out.box.2 1 _ rfl
  have q2 := HV3.out.box.2 2 _ rfl
  have q3 := HV3.out.box.2 3 _ rfl
  have q4 := HV3.out.box.2 4 _ rfl
  go_wp2_with fail
  refine (sorted_any _ _ h w3 HV3.out.lie (Nat.le_trans HCN.out (by decide))).mono ?_
  rintro e w4 ⟨hs, rfl, hls, hb4⟩
  have HS4 := Lib.hid (show VB (w4.alloc (Obj.cells #[.int .i64 hs.k, .int .i64 hs.n, .string hs.s, .slice hs.A hs.la hs.lc, .slice hs.F hs.lf hs.fc] 25)) w4.heap.size (Va.mk k n s l ks f).srt hs from ⟨Bx.start w4 hs 25, (Lies.keep (fun _ _ _ => rfl) (fun b _ hb => hb) _ _ hls : Lies w4 (fun b => b < w4.heap.size) _ hs).below (one_alloc w4 _) (Nat.le_refl _)⟩)
  have hb4' := Below_next hb4 (one_alloc w4 (Obj.cells #[.int .i64 hs.k, .int .i64 hs.n, .string hs.s, .slice hs.A hs.la hs.lc, .slice hs.F hs.lf hs.fc] 25))
  have HV4 := Lib.hid (HV3.out.go hb4')
  have HB4 := Lib.hid (Below_next HB3.out hb4')
  have hN1 : W.heap.size < w4.heap.size := Nat.lt_of_lt_of_le HV3.out.box.1 hb4.size
  clear q0 q1 q2 q3 q4 hb4 hb4' hls HV3 HB3
  have q0 := HV4.out.box.2 0 _ rfl
  have q1 := HV4.out.box.2 1 _ rfl
  have q2 := HV4.out.box.2 2 _ rfl
  have q3 := HV4.out.box.2 3 _ rfl
  have q4 := HV4.out.box.2 4 _ rfl
  have s45 : w4.heap.size < (w4.alloc (Obj.cells #[.int .i64 hs.k, .int .i64 hs.n, .string hs.s, .slice hs.A hs.la hs.lc, .slice hs.F hs.lf hs.fc] 25)).heap.size := HS4.out.box.1
  go_wp2_with fail
  generalize w4.alloc (Obj.cells #[.int .i64 hs.k, .int .i64 hs.n, .string hs.s, .slice hs.A hs.la hs.lc, .slice hs.F hs.lf hs.fc] 25) = w5 at HS4 HV4 HB4 q0 q1 q2 q3 q4 s45 ⊢
  refine (clone_prog _ _ h w5 HV4.out.lie HSH.out (Nat.le_trans HCN.out (by decide))).mono ?_
  rintro e w6 ⟨b2, h2, T2, rfl, hown2, hT2, hb6, hyes2, -⟩
  obtain rfl := hyes2 HRI.out
  have HC6 := Lib.hid (OV.start hown2 hT2 hb6)
  have s56 := hb6.size
  have hb6' := Below_next hb6 (one_alloc w6 (Obj.cells #[.int .i64 h2.k, .int .i64 h2.n, .string h2.s, .slice h2.A h2.la h2.lc, .slice h2.F h2.lf h2.fc] 25))
  have HV6 := Lib.hid (HV4.out.go hb6')
  have HS6 := Lib.hid (HS4.out.go hb6')
  have HB6 := Lib.hid (Below_next HB4.out hb6')
  have s67 : w6.heap.size < (w6.alloc (Obj.cells #[.int .i64 h2.k, .int .i64 h2.n, .string h2.s, .slice h2.A h2.la h2.lc, .slice h2.F h2.lf h2.fc] 25)).heap.size := HC6.out.box.1
  clear q0 q1 q2 q3 q4 hb6 hb6' hown2 hT2 hyes2 HV4 HS4 HB4
  have q0 := HV6.out.box.2 0 _ rfl
  have q1 := HV6.out.box.2 1 _ rfl
  have q2 := HV6.out.box.2 2 _ rfl
  have q3 := HV6.out.box.2 3 _ rfl
  have q4 := HV6.out.box.2 4 _ rfl
  go_wp2_with fail
  generalize w6.alloc (Obj.cells #[.int .i64 h2.k, .int .i64 h2.n, .string h2.s, .slice h2.A h2.la h2.lc, .slice h2.F h2.lf h2.fc] 25) = w7 at HC6 HV6 HS6 HB6 q0 q1 q2 q3 q4 s67 ⊢
  refine (get_prog k n s l ks f _ h key w7 HV6.out.lie HSH.out (Nat.le_trans HCN.out (by decide))).mono ?_
  rintro e w8 ⟨b3, h3, T3, ok, rfl, hown3, hT3, hb8, hyes3, hno3⟩
  have hc3 : b3.cnt ≤ 1000 := by
    have hcn := HCN.out
    cases ok
    · rw [(hno3 rfl).1]
      decide
    · obtain ⟨-, i, -, hi⟩ := hyes3 rfl
      have := cntL_mem (List.mem_of_getElem? hi)
      simp only [Va.cnt] at hcn
      omega
  have HC3 := Lib.hid hc3
  have HX8 := Lib.hid (OV.start hown3 hT3 hb8)
  have s78 := hb8.size
  have hb8' := Below_next hb8 (one_alloc w8 (Obj.cells #[.int .i64 h3.k, .int .i64 h3.n, .string h3.s, .slice h3.A h3.la h3.lc, .slice h3.F h3.lf h3.fc] 25))
  have HV8 := Lib.hid (HV6.out.go hb8')
  have HS8 := Lib.hid (HS6.out.go hb8')
  have HC8 := Lib.hid (HC6.out.go hb8')
  have HB8 := Lib.hid (Below_next HB6.out hb8')
  have s89 : w8.heap.size < (w8.alloc (Obj.cells #[.int .i64 h3.k, .int .i64 h3.n, .string h3.s, .slice h3.A h3.la h3.lc, .slice h3.F h3.lf h3.fc] 25)).heap.size := HX8.out.box.1
  clear q0 q1 q2 q3 q4 hb8 hb8' hown3 hT3 hyes3 hno3 hc3 HV6 HS6 HB6 HC6
  have q0 := HV8.out.box.2 0 _ rfl
  have q1 := HV8.out.box.2 1 _ rfl
  have q2 := HV8.out.box.2 2 _ rfl
  have q3 := HV8.out.box.2 3 _ rfl
  have q4 := HV8.out.box.2 4 _ rfl
  go_wp2_with fail
  generalize w8.alloc (Obj.cells #[.int .i64 h3.k, .int .i64 h3.n, .string h3.s, .slice h3.A h3.la h3.lc, .slice h3.F h3.lf h3.fc] 25) = w9 at HX8 HC8 HV8 HS8 HB8 q0 q1 q2 q3 q4 s89 ⊢
  refine (ord_nil k n s l ks f _ h w9 HV8.out.lie HSH.out (Nat.le_trans HCN.out (by decide))).mono ?_
  rintro e wA ⟨b4, h4, T4, er, rfl, hown4, hT4, hbA, hyes4, hno4⟩
  have hc4 : b4.cnt ≤ 1000 := by
    have hcn := HCN.out
    by_cases hq : h.k = 5 ∧ (Va.mk k n s l ks f).R 12
    · rw [(hyes4 hq).2]
      omega
    · rw [(hno4 hq).2]
      decide
  have HC4 := Lib.hid hc4
  have HWA := Lib.hid (OV.start hown4 hT4 hbA)
  have s9A := hbA.size
  have hbA' := Below_next hbA (one_alloc wA (Obj.cells #[.int .i64 h4.k, .int .i64 h4.n, .string h4.s, .slice h4.A h4.la h4.lc, .slice h4.F h4.lf h4.fc] 25))
  have HVA := Lib.hid (HV8.out.go hbA')
  have HSA := Lib.hid (HS8.out.go hbA')
  have HCA := Lib.hid (HC8.out.go hbA')
  have HXA := Lib.hid (HX8.out.go hbA')
  have HBA := Lib.hid (Below_next HB8.out hbA')
  have sAB : wA.heap.size < (wA.alloc (Obj.cells #[.int .i64 h4.k, .int .i64 h4.n, .string h4.s, .slice h4.A h4.la h4.lc, .slice h4.F h4.lf h4.fc] 25)).heap.size := HWA.out.box.1
  clear q0 q1 q2 q3 q4 hbA hbA' hown4 hT4 hyes4 hno4 hc4 HV8 HS8 HB8 HC8 HX8
  have q0 := HCA.out.box.2 0 _ rfl
  have q1 := HCA.out.box.2 1 _ rfl
  have q2 := HCA.out.box.2 2 _ rfl
  have q3 := HCA.out.box.2 3 _ rfl
  have q4 := HCA.out.box.2 4 _ rfl
  go_wp2_with fail
  generalize wA.alloc (Obj.cells #[.int .i64 h4.k, .int .i64 h4.n, .string h4.s, .slice h4.A h4.la h4.lc, .slice h4.F h4.lf h4.fc] 25) = wB at HWA HXA HCA HVA HSA HBA q0 q1 q2 q3 q4 sAB ⊢
  refine (spoil_any _ T2 h2 wB HCA.out.own (fun b q => by have := HCA.out.rng b q; omega) (Nat.le_trans HCN.out (by decide))).mono ?_
  rintro e wC ⟨rfl, hoC⟩
  have r2 := HCA.out.rng
  have HVC := Lib.hid (HVA.out.out hoC (fun b q => by have := r2 b q; omega))
  have HSC := Lib.hid (HSA.out.out hoC (fun b q => by have := r2 b q; omega))
  have HXC := Lib.hid (HXA.out.out hoC (fun b q => by have := r2 b q; omega))
  have HWC := Lib.hid (HWA.out.out hoC (fun b q => by have := r2 b q; omega))
  have HBC := Lib.hid (HBA.out.trans (OutK.belowOf hoC (B := W.heap.size) (fun b q => by have := r2 b q; omega) (by omega)))
  have sBC := hoC.size
  clear q0 q1 q2 q3 q4 hoC r2 HVA HSA HXA HWA HCA HBA
  have q0 := HXC.out.box.2 0 _ rfl
  have q1 := HXC.out.box.2 1 _ rfl
  have q2 := HXC.out.box.2 2 _ rfl
  have q3 := HXC.out.box.2 3 _ rfl
  have q4 := HXC.out.box.2 4 _ rfl
  go_wp2_with fail
  refine (spoil_any _ T3 h3 wC HXC.out.own (fun b q => by have := HXC.out.rng b q; omega) HC3.out).mono ?_
  rintro e wD ⟨rfl, hoD⟩
  have r2 := HXC.out.rng
  have HVD := Lib.hid (HVC.out.out hoD (fun b q => by have := r2 b q; omega))
  have HSD := Lib.hid (HSC.out.out hoD (fun b q => by have := r2 b q; omega))
  have HWD := Lib.hid (HWC.out.out hoD (fun b q => by have := r2 b q; omega))
  have HBD := Lib.hid (HBC.out.trans (OutK.belowOf hoD (B := W.heap.size) (fun b q => by have := r2 b q; omega) (by omega)))
  have sCD := hoD.size
  clear q0 q1 q2 q3 q4 hoD r2 HVC HSC HXC HWC HBC
  have q0 := HWD.out.box.2 0 _ rfl
  have q1 := HWD.out.box.2 1 _ rfl
  have q2 := HWD.out.box.2 2 _ rfl
  have q3 := HWD.out.box.2 3 _ rfl
  have q4 := HWD.out.box.2 4 _ rfl
  go_wp2_with fail
  refine (spoil_any _ T4 h4 wD HWD.out.own (fun b q => by have := HWD.out.rng b q; omega) HC4.out).mono ?_
  rintro e wE ⟨rfl, hoE⟩
  have r2 := HWD.out.rng
  have HVE := Lib.hid (HVD.out.out hoE (fun b q => by have := r2 b q; omega))
  have HSE := Lib.hid (HSD.out.out hoE (fun b q => by have := r2 b q; omega))
  have HBE := Lib.hid (HBD.out.trans (OutK.belowOf hoE (B := W.heap.size) (fun b q => by have := r2 b q; omega) (by omega)))
  clear q0 q1 q2 q3 q4 hoE r2 HVD HSD HWD HBD
  have q0 := HVE.out.box.2 0 _ rfl
  have q1 := HVE.out.box.2 1 _ rfl
  have q2 := HVE.out.box.2 2 _ rfl
  have q3 := HVE.out.box.2 3 _ rfl
  have q4 := HVE.out.box.2 4 _ rfl
  have p0 := HSE.out.box.2 0 _ rfl
  have p1 := HSE.out.box.2 1 _ rfl
  have p2 := HSE.out.box.2 2 _ rfl
  have p3 := HSE.out.box.2 3 _ rfl
  have p4 := HSE.out.box.2 4 _ rfl
  have hbd : Below wE.heap.size wE wE.drew := (Below.refl _ _).drew
  have HVD := Lib.hid (HVE.out.go hbd)
  have HSD := Lib.hid (HSE.out.go hbd)
  have HS0 := Lib.hid (S2.of HVD.out.box HSD.out.box)
  have HS1 := Lib.hid (show ∀ wF, Below wE.drew.heap.size wE.drew wF → S2 W.heap.size h w4.heap.size hs wF from fun wF hb => S2.of (HVD.out.go hb).box (HSD.out.go hb).box)
  have HS3 := Lib.hid (show ∀ wF wG, Below wE.drew.heap.size wE.drew wF → Below wF.heap.size wF wG → S2 W.heap.size h w4.heap.size hs wG from fun wF wG hb hc => S2.of ((HVD.out.go hb).go hc).box ((HSD.out.go hb).go hc).box)
  have HSL := Lib.hid (show ∀ wF, Below wE.drew.heap.size wE.drew wF → Lies wF (fun b => b < w4.heap.size) (Va.mk k n s l ks f).srt hs from fun wF hb => (HSD.out.go hb).lie)
  have HSO := Lib.hid (sorted_any _ _ h wE.drew HVD.out.lie (Nat.le_trans HCN.out (by decide)))
  have HBD := Lib.hid (Below_next HBE.out hbd)
  unfold Hd.val at HSO
  clear hbd
  go_wp2_with fail
  go_region_held3 (fun w' => w'.cell? ⟨W.heap.size, 0, none⟩ = some (.int .i64 h.k) ∧ w'.cell? ⟨W.heap.size, 1, none⟩ = some (.int .i64 h.n) ∧ w'.cell? ⟨W.heap.size, 2, none⟩ = some (.string h.s) ∧ w'.cell? ⟨W.heap.size, 3, none⟩ = some (.slice h.A h.la h.lc) ∧ w'.cell? ⟨W.heap.size, 4, none⟩ = some (.slice h.F h.lf h.fc) ∧ w'.cell? ⟨w4.heap.size, 0, none⟩ = some (.int .i64 hs.k) ∧ w'.cell? ⟨w4.heap.size, 1, none⟩ = some (.int .i64 hs.n) ∧ w'.cell? ⟨w4.heap.size, 2, none⟩ = some (.string hs.s) ∧ w'.cell? ⟨w4.heap.size, 3, none⟩ = some (.slice hs.A hs.la hs.lc) ∧ w'.cell? ⟨w4.heap.size, 4, none⟩ = some (.slice hs.F hs.lf hs.fc))
    (first
      | (have h7 := HS3.out _ _ hbF hbG; with_reducible exact h7)
      | (have h7 := HS1.out _ hbF; with_reducible exact h7)
      | (have h7 := HS0.out; with_reducible exact h7)
      | fail)
    (first
      | (go_at_call 20; refine (Hid.out HSO).mono ?_; rintro e wF ⟨hs2, rfl, hl2, hbF⟩)
      | (go_at_call 16; refine (same_ref _ _ _ _ hs2 hs wF hl2 (Hid.out HSL wF hbF)).mono ?_; rintro e wG ⟨r, rfl, hr, hbG⟩)
      | fail)
  obtain rfl : r = true := by simpa using hr
  have HZ := Lib.hid (Below_next (Below_next HBD.out hbF) hbG)
  clear hr
  go_wp2_with fail
  go_ret
  exact ⟨rfl, HZ.out⟩
theorem own : ownKnob Try.prog.godebug = none := by kernel_rfl
theorem laidOut : laidOutB Try.prog = true := by kernel_rfl
set_option maxRecDepth 100000 in
theorem lifted (os : Os) (started : os.Started) (H : Type) (enc : TypeId × Value → H) :
    ReturnsInHanded {} Try.checked os 8 .any (Rows.treeOwnSpec.pre6 enc Try.prog Try.f8 Rows.treeOwnRow.domain false) (Rows.treeOwnSpec.post enc Try.prog Try.f8 false true false false) := by
  refine returnsInHanded_of_change (C := Try.checked) own started (by kernel_rfl) Try.func8
    (ChangeSpec.witness6 (enc := enc) (C := Try.checked) false ⟨#[], #[.agg #[.int .i64 0, .int .i64 0, .string ByteArray.empty, .slice none 0 0, .slice none 0 0], .string ByteArray.empty], []⟩ 8 (by kernel_rfl) (by kernel_rfl) (by kernel_rfl) (by kernel_rfl)) ?_
  intro W base args ds gs before hval0 hW hcnd _
  have hval : ∀ (j : Nat) t v, Try.f8.params[j]? = some t → args[j]? = some v → Value.okWide Try.prog W .any base t v := hval0
  have hW' := hW
  obtain ⟨p, q, hA0, hV, rfl, hfz, hnd⟩ := hW
  have hA : DataW.TrodAll enc Try.prog W 0 (fun _ => true) true Try.f8.params.toList args.toList ds p := hA0
  rw [Try.params8] at hA hval
  obtain ⟨v0, vs0, d0, ds0, p0, q0, hargs, rfl, rfl, h0, r0⟩ := trodAll_cons hA
  obtain ⟨v1, vs1, d1, ds1, p1, q1, rfl, rfl, rfl, h1, r1⟩ := trodAll_cons r0
  obtain ⟨rfl, rfl, rfl⟩ := trodAll_nil r1
  obtain rfl : args = #[v0, v1] := by cases args; simp_all
  obtain ⟨rfl, rfl⟩ := trodVars_none hV
  have k0 := h0
  have lt0 : ∀ x ∈ p0, x.block < W.heap.size := by obtain ⟨m, hm⟩ := k0; exact DataW.trod_lt m _ _ _ hm
  obtain ⟨a0, g0, rfl, w0⟩ := open_value (hval 0 25 v0 rfl rfl) h0
  have k1 := h1
  have lt1 : ∀ x ∈ p1, x.block < W.heap.size := by obtain ⟨m, hm⟩ := k1; exact DataW.trod_lt m _ _ _ hm
  obtain ⟨a1, rfl, hd1, hp1, w1⟩ := open_string Try.underlying9 (hval 1 9 v1 rfl rfl) h1
  clear hA0 hval0
  refine (walk W a0 g0 w0 a1 w1).mono fun e W' ⟨he, bel⟩ => ?_
  subst he
  exact ⟨_, rfl, _, _, _, [], _, [], hW', trodAll_mk1 (shut_bool Try.underlying4 _), (trodAll_cons_mk (Below.trod laidOut (by kernel_rfl) (of_decide_eq_true (by kernel_rfl)) k0 bel lt0) (trodAll_cons_mk (Below.trod laidOut (by kernel_rfl) (of_decide_eq_true (by kernel_rfl)) k1 bel lt1) trodAll_mk0)), rfl, bel.frame _, fun h => by cases h⟩
theorem over : Rows.treeOwnRow.holds Try.pinned (OpenSpec.ofChange Rows.treeOwnSpec) :=
  OpenClaim.holds_of_wide 8 Try.f8 rfl rfl rfl rfl rfl rfl rfl ⟨rfl, rfl, rfl, rfl, rfl⟩ rfl rfl rfl rfl rfl (by kernel_rfl) Try.func8 (by kernel_rfl)
    (of_decide_eq_true (by kernel_rfl)) (by unfold Func.isWrapper; first | (rw [if_pos (by decide +kernel)]; kernel_rfl) | (rw [if_neg (by decide +kernel)]; exact ⟨rfl, rfl⟩))
    (fun os started H enc _ => lifted os started H enc)
theorem proved : Rows.TreeOwnSaid := over
end Go.Proofs.Ytalhkbcbfpjhgaa.treeOwn
namespace Go.Proofs.Ytalhkbcbfpjhgaa
theorem treeOwn_holds : Rows.TreeOwnSaid := treeOwn.proved
#print axioms treeOwn_holds
end Go.Proofs.Ytalhkbcbfpjhgaa

