/- 'cascadelaw01.TextEnds' returns true at every input, and leaves it as it was: lines without line ends, put together by any line ends, are told again by text.Lines. No condition. -/
import Derived.Test.YtbfgekfajbbdaaaRows
import Derived.Test.YtbfgekfajbbdaaaWalksI
import Derived.Test.YtbfgekfajbbdaaaFrame
set_option linter.unusedVariables false
set_option linter.unusedSimpArgs false
namespace Go.Proofs.Ytbfgekfajbbdaaa.textEnds
open Go.Proofs.Ytbfgekfajbbdaaa.textLines (Row linesT_pos linesT_le)
open Go.ChangeShapes Go.WideShapes Go.ChangeAt Go.RowKit
open Go.ChangeMaps (open_string shut_string)
theorem Below_next {w w1 w2 : World} (h : Below w.heap.size w w1) (k : Below w1.heap.size w1 w2) : Below w.heap.size w w2 := h.trans (k.mono h.size)
set_option maxHeartbeats 2000000 in
set_option maxRecDepth 100000 in
theorem main (A : Option Addr) (n c : Nat) (ss : List ByteArray) (A1 : Option Addr) (n1 c1 : Nat) (zs : List Int) (w : World) (hn0 : 0 < n) (hn : n ≤ 20) (hn1 : n1 ≤ 20)
    (hA : Rd w A n (ss.map Value.string)) (hz : zs.length = n1) (hzb : ∀ z ∈ zs, 0 ≤ z ∧ z ≤ 255) (hA1 : Rd w A1 n1 (zs.map (Value.int .u8))) (hss : ∀ x ∈ ss, x.size ≤ maxLen) :
    Calls Try.prog 8 #[.slice A n c, .slice A1 n1 c1] w fun e w' => e = .returned (.bool true) ∧ Below w.heap.size w w' := by
  have hl : ss.length = n := by have := hA.1; simpa using this
  have HL := Lib.hid hl
  have HZ := Lib.hid hz
  have HZB := Lib.hid hzb
  have HSS := Lib.hid hss
  obtain ⟨ad, rfl, hadb, hcell⟩ := hA.2 hn0
  have HCELL := Lib.hid hcell
  have d1 : ((n : Int) == 0) = false := by simp; omega
  clear hl hz hzb hss hcell hA
  go_enter Try.func8, Try.ntmps8
  go_wp2_with (go_at_call 9; refine (awake_any _).mono ?_; rintro e wA ⟨rfl, hbA⟩)
  go_loopw [5, 6] (fun s i wr => ∃ (k : Nat) (S : ByteArray), k ≤ n ∧ i = .int .i64 k ∧ s = .string S ∧ S.size ≤ 42 * k ∧ Inv (ss.map fun x => x.data.toList) k S.data.toList ∧ Below w.heap.size w wr) (fun _ i _ => n - (intOf i).toNat)
  case atStart => exact ⟨0, ⟨#[]⟩, Nat.zero_le _, rfl, rfl, by decide, Inv.zero _ (by rw [List.length_map, HL.out]; exact hn0), hbA⟩
  case round =>
    obtain ⟨k, S, hk, rfl, rfl, hS, hinv, hbr⟩ := hrel
    have HINV := Lib.hid hinv
    clear hinv
    by_cases hlt : k < n
    · obtain ⟨x, hx⟩ : ∃ x, ss[k]? = some x := ⟨ss[k]'(by have := HL.out; omega), List.getElem?_eq_getElem _⟩
      have HX := Lib.hid hx
      have hxm := HSS.out x (List.mem_of_getElem? hx)
      unfold maxLen at hxm
      have cx : wr.cell? (ad.add k) = some (.string x) := (hbr.cell (by rw [add_block]; exact hadb)).trans (HCELL.out k _ (by simp [hx]))
      clear hx
      by_cases h40 : 40 < x.size
      · go_wp2
        go_ret
        exact ⟨rfl, hbr⟩
      · have hx32 : x.size ≤ 4294967296 := by omega
        by_cases hm : (linesFrom x 0 0).length = 1
        · obtain ⟨hno, h1⟩ := one_line x hm
          have HNO := Lib.hid hno
          have H1 := Lib.hid h1
          clear hno h1 hm
          go_wp2_with (go_at_call 20; refine (lines_one x hx32 H1.out _).mono ?_; rintro e w2 ⟨g, cap, rfl, ⟨hg, cg⟩, hb2⟩)
          have cx2 : w2.cell? (ad.add k) = some (.string x) := (hb2.cell (by rw [add_block]; have := hbr.size; omega)).trans cx
          have hbr2 := Below_next hbr hb2
          clear cx hbr hb2
          go_quiet (fail)
          go_wp2_with fail
          · have hk1 : k + 1 < n := by omega
            have hR := (hA1.below hbr2 (Nat.le_refl _)).below (below_drewN (Below.refl _ w2) nq) (Nat.le_refl _)
            refine (end_any A1 n1 c1 k zs _ HZ.out (by unfold maxLen; omega) (by omega) HZB.out (fun h0 => ?_)).mono ?_
            · obtain ⟨a1, e1, _, hc1⟩ := hR.2 h0
              exact ⟨a1, e1, fun j hj => hc1 j _ (by rw [List.getElem?_map, List.getElem?_eq_getElem (by have := HZ.out; omega), List.getD_eq_getElem?_getD, List.getElem?_eq_getElem (by have := HZ.out; omega)]; rfl)⟩
            · rintro e w' ⟨E, hE, rfl, rfl⟩
              have hEs := hE.size
              have HE := Lib.hid hE
              clear hE hR
              go_wp2
              refine ⟨⟨k + 1, S ++ x ++ E, by omega, by go_num, rfl, ?_, ?_, below_drewN hbr2 nq⟩, by simp [intOf]; omega⟩
              · rw [ByteArray.size_append, ByteArray.size_append]; omega
              · rw [Joins.data_append, Joins.data_append]
                exact HINV.out.more (by rw [List.length_map, HL.out]; exact hk1) (by rw [List.getElem?_map, HX.out]; rfl) HNO.out HE.out
          · have hk1 : k + 1 = n := by omega
            refine ⟨⟨k + 1, S ++ x, by omega, by go_num, rfl, ?_, ?_, below_drewN hbr2 nq⟩, by simp [intOf]; omega⟩
            · rw [ByteArray.size_append]; omega
            · rw [Joins.data_append]
              exact HINV.out.last (by rw [List.length_map, HL.out]; exact hk1) (by rw [List.getElem?_map, HX.out]; rfl) HNO.out
        · have hpos := linesT_pos x (x.size - 0) 0 0
          have hle := linesT_le x (x.size - 0) 0 0
          obtain ⟨m, hm'⟩ : ∃ m, (linesFrom x 0 0).length = m := ⟨_, rfl⟩
          have hm2 : 1 < m := by unfold linesFrom at hm hm'; omega
          have hm3 : m ≤ 41 := by unfold linesFrom at hm'; omega
          have HM := Lib.hid hm'
          clear hm hm' hpos hle
          have dm : ((m : Int) != 1) = true := by rw [bne_iff_ne]; omega
          go_wp2_with (go_at_call 20; refine (lines_many x hx32 m HM.out _).mono ?_; rintro e w2 ⟨g, cap, rfl, hb2⟩)
          have hbr2 := Below_next hbr hb2
          clear cx hbr hb2
          go_quiet (fail)
          go_wp2_with fail
          go_ret
          exact ⟨ret_bool (by simp; omega), below_drewN hbr2 nq⟩
    · obtain rfl : k = n := by omega
      have hls : linesFrom S 0 0 = ss := inv_done (by rw [HL.out]; exact HINV.out)
      have HLS := Lib.hid hls
      clear hls
      go_wp2_with (go_at_call 20; refine (lines_all S (by omega) ss HLS.out k HL.out _).mono ?_; rintro e w2 ⟨g, cap, rfl, hr, hb2⟩)
      have hbr2 := Below_next hbr hb2
      clear hb2 hbr
      go_loopw [9] (fun i wq => ∃ j : Nat, j ≤ k ∧ i = .int .i64 j ∧ Below w2.heap.size w2 wq) (fun i _ => k - (intOf i).toNat)
      case atStart => exact ⟨0, Nat.zero_le _, rfl, Below.refl _ _⟩
      case round =>
        obtain ⟨j, hj, rfl, hbq⟩ := hrel
        by_cases hjk : j < k
        · obtain ⟨x, hx⟩ : ∃ x, ss[j]? = some x := ⟨ss[j]'(by have := HL.out; omega), List.getElem?_eq_getElem _⟩
          have hq := Below_next hbr2 hbq
          have e1 := (hr.below hbq (Nat.le_refl _)).2 j x hx
          have e2 : wr.cell? (ad.add j) = some (.string x) := (hq.cell (by rw [add_block]; exact hadb)).trans (HCELL.out j _ (by simp [hx]))
          clear hx hq
          go_wp2
          go_quiet (fail)
          go_wp2
          exact ⟨⟨j + 1, by omega, by go_num, below_drewN hbq nq⟩, by simp [intOf]; omega⟩
        · go_wp2
          go_ret
          exact ⟨rfl, Below_next hbr2 hbq⟩
set_option maxRecDepth 100000 in
theorem short (A : Option Addr) (n c : Nat) (A1 : Option Addr) (n1 c1 : Nat) (w : World) (hn : n ≤ maxLen) (hn1 : n1 ≤ maxLen) (h : n = 0 ∨ 20 < n ∨ 20 < n1) :
    Calls Try.prog 8 #[.slice A n c, .slice A1 n1 c1] w fun e w' => e = .returned (.bool true) ∧ Below w.heap.size w w' := by
  unfold maxLen at hn hn1
  have HB : Below w.heap.size w w := Below.refl _ _
  by_cases h0 : n = 0
  · subst h0
    go_enter Try.func8, Try.ntmps8
    go_wp2_with (go_at_call 9; refine (awake_any _).mono ?_; rintro e w1 ⟨rfl, hb⟩; replace HB := Below_next HB hb; clear hb)
    go_ret
    exact ⟨rfl, HB⟩
  · have d1 : ((n : Int) == 0) = false := by simp; omega
    by_cases h1 : 20 < n
    · go_enter Try.func8, Try.ntmps8
      go_wp2_with (go_at_call 9; refine (awake_any _).mono ?_; rintro e w1 ⟨rfl, hb⟩; replace HB := Below_next HB hb; clear hb)
      go_ret
      exact ⟨rfl, HB⟩
    · have h2 : 20 < n1 := by omega
      go_enter Try.func8, Try.ntmps8
      go_wp2_with (go_at_call 9; refine (awake_any _).mono ?_; rintro e w1 ⟨rfl, hb⟩; replace HB := Below_next HB hb; clear hb)
      go_ret
      exact ⟨rfl, HB⟩
theorem walk (W : World) (a0 : Option Addr) (l0 c0 : Nat) (z0 : List ByteArray) (w0 : IsStrs W a0 l0 z0) (a1 : Option Addr) (l1 c1 : Nat) (z1 : List Int) (w1 : IsInts .u8 W a1 l1 z1) :
    Calls Try.prog 8 #[.slice a0 l0 c0, .slice a1 l1 c1] W fun e w' => e = .returned (.bool true) ∧ Below W.heap.size W w' := by
  by_cases h : l0 = 0 ∨ 20 < l0 ∨ 20 < l1
  · exact short a0 l0 c0 a1 l1 c1 W w0.2.1 w1.2.1 h
  · refine main a0 l0 c0 z0 a1 l1 c1 z1 W (by omega) (by omega) (by omega) w0.1 (by have := w1.1.1; simpa using this) (fun z hz => ?_) w1.1 w0.2.2
    exact bounds_u8 (w1.2.2 z hz)
theorem own : ownKnob Try.prog.godebug = none := by kernel_rfl
theorem laidOut : laidOutB Try.prog = true := by kernel_rfl
set_option maxRecDepth 100000 in
theorem lifted (os : Os) (started : os.Started) (H : Type) (enc : TypeId × Value → H) :
    ReturnsInHanded {} Try.checked os 8 .any (Rows.textEndsSpec.pre6 enc Try.prog Try.f8 Rows.textEndsRow.domain false) (Rows.textEndsSpec.post enc Try.prog Try.f8 false true false false) := by
  refine returnsInHanded_of_change (C := Try.checked) own started (by kernel_rfl) Try.func8
    (ChangeSpec.witness6 (enc := enc) (C := Try.checked) false ⟨#[], #[.slice none 0 0, .slice none 0 0], []⟩ 8 (by kernel_rfl) (by kernel_rfl) (by kernel_rfl) (by kernel_rfl)) ?_
  intro W base args ds gs before hval0 hW hcnd _
  have hval : ∀ (j : Nat) t v, Try.f8.params[j]? = some t → args[j]? = some v → Value.okWide Try.prog W .any base t v := hval0
  have hW' := hW
  obtain ⟨p, q, hA0, hV, rfl, hfz, hnd⟩ := hW
  have hA : DataW.TrodAll enc Try.prog W 0 (fun _ => true) true Try.f8.params.toList args.toList ds p := hA0
  rw [Try.params8] at hA hval
  obtain ⟨v0, vs0, d0, ds0, p0, q0, hargs, rfl, rfl, h0, r0⟩ := trodAll_cons hA
  obtain ⟨v1, vs1, d1, ds1, p1, q1, rfl, rfl, rfl, h1, r1⟩ := trodAll_cons r0
  obtain ⟨rfl, rfl, rfl⟩ := trodAll_nil r1
  obtain rfl : args = #[v0, v1] := by cases args; simp_all
  obtain ⟨rfl, rfl⟩ := trodVars_none hV
  have k0 := h0
  have lt0 : ∀ x ∈ p0, x.block < W.heap.size := by obtain ⟨m, hm⟩ := k0; exact DataW.trod_lt m _ _ _ hm
  obtain ⟨a0, l0, c0, rfl⟩ := okWide_slice Try.underlying32 (hval 0 32 v0 rfl rfl)
  obtain ⟨z0, w0⟩ := is_strs Try.underlying32 Try.underlying9 (by kernel_rfl) h0
  have k1 := h1
  have lt1 : ∀ x ∈ p1, x.block < W.heap.size := by obtain ⟨m, hm⟩ := k1; exact DataW.trod_lt m _ _ _ hm
  obtain ⟨a1, l1, c1, rfl⟩ := okWide_slice Try.underlying34 (hval 1 34 v1 rfl rfl)
  obtain ⟨z1, w1⟩ := is_ints Try.underlying34 Try.underlying5 (by kernel_rfl) h1
  clear hA0 hval0
  refine (walk W a0 l0 c0 z0 w0 a1 l1 c1 z1 w1).mono fun e W' ⟨he, bel⟩ => ?_
  subst he
  exact ⟨_, rfl, _, _, _, [], _, [], hW', trodAll_mk1 (shut_bool Try.underlying4 _), (trodAll_cons_mk (Below.trod laidOut (by kernel_rfl) (of_decide_eq_true (by kernel_rfl)) k0 bel lt0) (trodAll_cons_mk (Below.trod laidOut (by kernel_rfl) (of_decide_eq_true (by kernel_rfl)) k1 bel lt1) trodAll_mk0)), rfl, bel.frame _, fun h => by cases h⟩
theorem over : Rows.textEndsRow.holds Try.pinned (OpenSpec.ofChange Rows.textEndsSpec) :=
  OpenClaim.holds_of_wide 8 Try.f8 rfl rfl rfl rfl rfl rfl rfl ⟨rfl, rfl, rfl, rfl, rfl⟩ rfl rfl rfl rfl rfl (by kernel_rfl) Try.func8 (by kernel_rfl)
    (of_decide_eq_true (by kernel_rfl)) (by unfold Func.isWrapper; first | (rw [if_pos (by decide +kernel)]; kernel_rfl) | (rw [if_neg (by decide +kernel)]; exact ⟨rfl, rfl⟩))
    (fun os started H enc _ => lifted os started H enc)
theorem proved : Rows.TextEndsSaid := over
end Go.Proofs.Ytbfgekfajbbdaaa.textEnds
namespace Go.Proofs.Ytbfgekfajbbdaaa
theorem textEnds_holds : Rows.TextEndsSaid := textEnds.proved
#print axioms textEnds_holds
end Go.Proofs.Ytbfgekfajbbdaaa
