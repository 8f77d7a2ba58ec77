/- 'cascadelaw04.DynTexts' returns true at every input, and leaves it as it was: of what dyn.Odd makes of a value dyn.Texts tells the strings, or that there is something else, as the document's own answer does. No condition. -/
import Derived.Test.YtlhmdbloddpfbaaRows
import Derived.Test.YtlhmdbloddpfbaaDTxtC
import Derived.ProofKit
import Derived.OpenShut
import Derived.ShutString
import Derived.ChangeOld
import Derived.BigQuiet
set_option linter.unusedVariables false
set_option linter.unusedSimpArgs false
namespace Go.Proofs.Ytlhmdbloddpfbaa.dynTexts
open Go.ChangeShapes Go.WideShapes Go.ChangeAt Go.RowKit
open Go.ChangeMaps (open_string shut_string)
def ends (W : World) (e : Ending) (w' : World) : Prop := e = .returned (.bool true) ∧ Below W.heap.size W w'
theorem bel2' {w w1 w2 : World} (h : Below w.heap.size w w1) (k : Below w1.heap.size w1 w2) : Below w.heap.size w w2 := h.trans (k.mono h.size)
theorem un_of {W : World} {a : Va} {h : Hd} {ps : List MemPlace} (m : MemR ps W a h) (hf : ∀ b off, MemPlace.cell b off ∈ ps → W.frozen? ⟨b, off, none⟩ = false) : Un W a h := fun c p u r => by
  have := hf _ _ (m c p u r)
  simpa [World.frozen?] using this
set_option maxHeartbeats 4000000 in
set_option maxRecDepth 100000 in
theorem walk (W : World) (a : Va) (h : Hd) (H : Lies W (fun _ => True) a h) (hun : Un W a h) : Calls Try.prog 12 #[h.val] W fun e w' => e = .returned (.bool true) ∧ Below W.heap.size W w' := by
  show Calls Try.prog 12 #[h.val] W (ends W)
  have H0 : Lies W (fun b => b < W.heap.size) a h := Lies.keep (fun _ _ _ => rfl) (fun _ _ hb => hb) _ _ H
  have hb0 : Below W.heap.size W (W.alloc (Obj.cells #[.int .i64 h.k, .int .i64 h.n, .string h.s, .slice h.A h.la h.lc, .slice h.F h.lf h.fc] 25)) := (Below.refl _ _).alloc (Nat.le_refl _) _
  have HBX := Lib.hid (Bx.start W h 25)
  have HB0 := Lib.hid hb0
  have HL := Lib.hid H0
  have HU := Lib.hid hun
  clear H H0 hun hb0
  unfold Hd.val at *
  go_enter Try.func12, Try.ntmps12
  go_wp2_with fail
  refine (awake4 _).mono ?_
  rintro e w1 ⟨rfl, rfl⟩
  have q0 := HBX.out.2 0 _ rfl
  have q1 := HBX.out.2 1 _ rfl
  have q2 := HBX.out.2 2 _ rfl
  have q3 := HBX.out.2 3 _ rfl
  have q4 := HBX.out.2 4 _ rfl
  go_wp2_with fail
  refine (few_ref _ _ h _ (HL.out.below HB0.out (Nat.le_refl _))).mono ?_
  rintro e w2 ⟨r, rfl, hr, hb2⟩
  have HX2 := Lib.hid (HBX.out.go hb2 HBX.out.1)
  have HB2 := Lib.hid (bel2' HB0.out hb2)
  have HR := Lib.hid hr
  clear q0 q1 q2 q3 q4 hb2 hr
  cases r
  · go_wp2_with fail
    refine (awake4 _).mono ?_
    rintro e w1 ⟨rfl, rfl⟩
    go_wp2_with fail
    go_ret
    exact ⟨rfl, HB2.out⟩
  obtain ⟨hsh, hcn⟩ := HR.out rfl
  have HSH := Lib.hid hsh
  have HCN := Lib.hid hcn
  clear hsh hcn HR HBX HB0
  have q0 := HX2.out.2 0 _ rfl
  have q1 := HX2.out.2 1 _ rfl
  have q2 := HX2.out.2 2 _ rfl
  have q3 := HX2.out.2 3 _ rfl
  have q4 := HX2.out.2 4 _ rfl
  have hL2 : Lies w2 (fun b => b < w2.heap.size) a h := Lies.keep (fun p hp _ => HB2.out.cell hp) (fun b q _ => Nat.lt_of_lt_of_le q HB2.out.size) _ _ HL.out
  have HOD := Lib.hid (odd_any a h w2 hL2 (HU.out.go HL.out HB2.out) HSH.out HCN.out)
  clear hL2
  unfold Hd.val at HOD
  go_wp2_with fail
  refine HOD.out.mono ?_
  rintro e w3 ⟨x, rfl, hx, hb3⟩
  have HX3 := Lib.hid (HX2.out.go hb3 HX2.out.1)
  have HB3 := Lib.hid (bel2' HB2.out hb3)
  have HTX := Lib.hid (txt_any a x _ w3 hx HSH.out (Nat.le_trans HCN.out (by decide)))
  clear q0 q1 q2 q3 q4 hb3 hx HX2 HB2 HOD
  go_wp2_with fail
  refine HTX.out.mono ?_
  rintro e w4 ⟨hr4, hb4⟩
  have HX4 := Lib.hid (HX3.out.go hb4 HX3.out.1)
  have HB4 := Lib.hid (bel2' HB3.out hb4)
  clear hb4 HX3 HB3 HTX
  have q0 := HX4.out.2 0 _ rfl
  have q1 := HX4.out.2 1 _ rfl
  have q2 := HX4.out.2 2 _ rfl
  have q3 := HX4.out.2 3 _ rfl
  have q4 := HX4.out.2 4 _ rfl
  have HRF := Lib.hid (reft_any a _ h w4 (HL.out.below HB4.out (Nat.le_refl _)) (Nat.le_trans HCN.out (by decide)))
  unfold Hd.val at HRF
  rcases hr4 with ⟨A, c, rfl, hok, hrd⟩ | ⟨rfl, hno⟩
  · have HOK := Lib.hid hok
    have HRD := Lib.hid hrd
    clear hok hrd
    go_wp2_with fail
    refine HRF.out.mono ?_
    rintro e w5 ⟨hr5, hb5⟩
    rcases hr5 with ⟨B, c5, rfl, -, hrd5⟩ | ⟨rfl, hno⟩
    · have HRA := Lib.hid (HRD.out.go hb5)
      have HRB := Lib.hid hrd5
      have HB5 := Lib.hid (bel2' HB4.out hb5)
      clear q0 q1 q2 q3 q4 hrd5 hb5 HRF HX4 HB4 HRD
      have hlen : a.txts.length ≤ 1000 := by
        have hcn := HCN.out
        obtain ⟨k, n, s, l, ks, f⟩ := a
        simp only [Va.cnt] at hcn
        have := len_le_cntL l
        simp only [Va.txts]
        split
        · simp; omega
        · simp
      have HNN := Lib.hid (rfl : a.txts = a.txts)
      generalize hss : a.txts = ss at hlen HRA HRB
      clear hss HNN
      go_wp2_with fail
      go_loopw [7] (fun iv wr => ∃ i : Nat, iv = .int .i64 i ∧ i ≤ ss.length ∧ Below w5.heap.size w5 wr) (fun iv _ => ss.length - (intOf iv).toNat)
      case atStart => exact ⟨0, rfl, Nat.zero_le _, Below.refl _ _⟩
      case round =>
        obtain ⟨i, rfl, hi, hbr⟩ := hrel
        have HBR := Lib.hid hbr
        by_cases hlt : i < ss.length
        · obtain ⟨ad, rfl, had, ca⟩ := (HRA.out.go hbr) i _ (List.getElem?_eq_getElem hlt)
          obtain ⟨bd, rfl, hbd, cb⟩ := (HRB.out.go hbr) i _ (List.getElem?_eq_getElem hlt)
          generalize ss[i] = sv at ca cb
          have hq := bytes_eq (rfl : sv = sv)
          clear hbr
          go_wp2_with fail
          go_quiet (fail)
          go_wp2_with fail
          exact ⟨⟨i + 1, by go_num, by omega, below_drewN' HBR.out _⟩, by simp [intOf]; omega⟩
        · have hie : i = ss.length := by omega
          subst hie
          clear hbr
          go_wp2_with fail
          go_ret
          exact ⟨rfl, bel2' HB5.out HBR.out⟩
    · exact absurd HOK.out hno
  · have HNO := Lib.hid hno
    clear hno
    go_wp2_with fail
    refine HRF.out.mono ?_
    rintro e w5 ⟨hr5, hb5⟩
    rcases hr5 with ⟨B, c5, rfl, hok, hrd5⟩ | ⟨rfl, -⟩
    · exact absurd hok HNO.out
    · have HB5 := Lib.hid (bel2' HB4.out hb5)
      clear q0 q1 q2 q3 q4 hb5 HRF HX4 HB4
      go_wp2_with fail
      refine wp_loop_rounds 1 ?_
      rw [rounds_succ]
      go_wp2_with fail
      go_ret
      exact ⟨rfl, HB5.out⟩
theorem own : ownKnob Try.prog.godebug = none := by kernel_rfl
theorem laidOut : laidOutB Try.prog = true := by kernel_rfl
set_option maxRecDepth 100000 in
theorem lifted (os : Os) (started : os.Started) (H : Type) (enc : TypeId × Value → H) :
    ReturnsInHanded {} Try.checked os 12 .any (Rows.dynTextsSpec.pre6 enc Try.prog Try.f12 Rows.dynTextsRow.domain false) (Rows.dynTextsSpec.post enc Try.prog Try.f12 false true false false) := by
  refine returnsInHanded_of_change (C := Try.checked) own started (by kernel_rfl) Try.func12
    (ChangeSpec.witness6 (enc := enc) (C := Try.checked) false ⟨#[], #[.agg #[.int .i64 0, .int .i64 0, .string ByteArray.empty, .slice none 0 0, .slice none 0 0]], []⟩ 8 (by kernel_rfl) (by kernel_rfl) (by kernel_rfl) (by kernel_rfl)) ?_
  intro W base args ds gs before hval0 hW hcnd _
  have hval : ∀ (j : Nat) t v, Try.f12.params[j]? = some t → args[j]? = some v → Value.okWide Try.prog W .any base t v := hval0
  have hW' := hW
  obtain ⟨p, q, hA0, hV, rfl, hfz, hnd⟩ := hW
  have hA : DataW.TrodAll enc Try.prog W 0 (fun _ => true) true Try.f12.params.toList args.toList ds p := hA0
  rw [Try.params12] at hA hval
  obtain ⟨v0, vs0, d0, ds0, p0, q0, hargs, rfl, rfl, h0, r0⟩ := trodAll_cons hA
  obtain ⟨rfl, rfl, rfl⟩ := trodAll_nil r0
  obtain rfl : args = #[v0] := by cases args; simp_all
  obtain ⟨rfl, rfl⟩ := trodVars_none hV
  have k0 := h0
  have lt0 : ∀ x ∈ p0, x.block < W.heap.size := by obtain ⟨m, hm⟩ := k0; exact DataW.trod_lt m _ _ _ hm
  obtain ⟨a0, g0, rfl, w0, m0⟩ := open_valueU (hval 0 25 v0 rfl rfl) h0
  have hun : Un W a0 g0 := un_of m0 fun b off hm => hfz b off (by simpa using hm)
  clear hA0 hval0
  refine (walk W a0 g0 w0 hun).mono fun e W' ⟨he, bel⟩ => ?_
  subst he
  exact ⟨_, rfl, _, _, _, [], _, [], hW', trodAll_mk1 (shut_bool Try.underlying4 _), (trodAll_cons_mk (Below.trod laidOut (by kernel_rfl) (of_decide_eq_true (by kernel_rfl)) k0 bel lt0) trodAll_mk0), rfl, bel.frame _, fun h => by cases h⟩
theorem over : Rows.dynTextsRow.holds Try.pinned (OpenSpec.ofChange Rows.dynTextsSpec) :=
  OpenClaim.holds_of_wide 12 Try.f12 rfl rfl rfl rfl rfl rfl rfl ⟨rfl, rfl, rfl, rfl, rfl⟩ rfl rfl rfl rfl rfl (by kernel_rfl) Try.func12 (by kernel_rfl)
    (of_decide_eq_true (by kernel_rfl)) (by unfold Func.isWrapper; first | (rw [if_pos (by decide +kernel)]; kernel_rfl) | (rw [if_neg (by decide +kernel)]; exact ⟨rfl, rfl⟩))
    (fun os started H enc _ => lifted os started H enc)
theorem proved : Rows.DynTextsSaid := over
end Go.Proofs.Ytlhmdbloddpfbaa.dynTexts
namespace Go.Proofs.Ytlhmdbloddpfbaa
theorem dynTexts_holds : Rows.DynTextsSaid := dynTexts.proved
#print axioms dynTexts_holds
end Go.Proofs.Ytlhmdbloddpfbaa
