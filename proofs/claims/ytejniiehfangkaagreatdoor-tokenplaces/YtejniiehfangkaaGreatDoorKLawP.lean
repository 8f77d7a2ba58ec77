/- TokenPlaces (P8.1): tokens stand at rising places, each as it is. The walk. -/
import Derived.Test.YtejniiehfangkaaGreatDoorKOpen
import Derived.Test.YtejniiehfangkaaGreatDoorKPlc
import Derived.Deep.QuietTactic
import Derived.BigQuiet
set_option linter.unusedVariables false
set_option linter.unusedSimpArgs false
namespace Go.Proofs.YtejniiehfangkaaGreatDoor.TokenPlaces
open Go.RowKit
def ends (W : World) (e : Ending) (W' : World) : Prop := e = .returned (.bool true) ∧ Below W.heap.size W W'
set_option maxHeartbeats 1000000 in
set_option maxRecDepth 100000 in
theorem walk_long (W : World) (hL : LV W) (s : ByteArray) (hs : s.size ≤ maxLen) (hl : 600 < s.size) : Calls Tryz.prog 8 #[.string s] W (ends W) := by
  unfold maxLen at hs
  have HL := Lib.hid hL
  have hgt : decide ((600 : Int) < (s.size : Int)) = true := decide_eq_true (by omega)
  clear hL
  go_enter Tryz.func8, Tryz.ntmps8
  go_wp2_with fail
  refine (awake_any _ HL.out).mono ?_
  rintro e w1 ⟨rfl, hb1⟩
  go_wp2_with fail
  refine (awake_any _ (HL.out.go hb1)).mono ?_
  rintro e w2 ⟨rfl, hb2⟩
  go_wp2_with fail
  go_ret
  exact ⟨rfl, hb1.trans (hb2.mono hb1.size)⟩
set_option maxHeartbeats 1000000 in
set_option maxRecDepth 100000 in
theorem walk_err (W : World) (hL : LV W) (s : ByteArray) (hs : s.size ≤ 600) (er : Int) (at_ : Nat) (hx : lexB s = .inr (er, at_)) : Calls Tryz.prog 8 #[.string s] W (ends W) := by
  have HL := Lib.hid hL
  obtain ⟨h0, ha⟩ := lexB_err hx
  have hgt : decide ((600 : Int) < (s.size : Int)) = false := decide_eq_false (by omega)
  have hne : (er != 0) = true := by simpa using h0
  have hat : at_ ≤ s.size := ha
  have hge : decide ((0 : Int) ≤ (at_ : Int)) = true := decide_eq_true (by omega)
  have hle : decide ((at_ : Int) ≤ (s.size : Int)) = true := decide_eq_true (by omega)
  have KL : Hid (∀ w, LV w → Calls Tryz.prog 10 #[.string s] w (LxQ (.inr (er, at_)) w)) := Lib.hid (fun w hw => by rw [← hx]; exact lex_read s (by omega) w hw)
  clear hL h0 ha hx
  go_enter Tryz.func8, Tryz.ntmps8
  go_wp2_with fail
  refine (awake_any _ HL.out).mono ?_
  rintro e w1 ⟨rfl, hb1⟩
  have HB1 := Lib.hid hb1
  clear hb1
  go_wp2_with fail
  refine (KL.out w1 (HL.out.go HB1.out)).mono ?_
  rintro e w2 ⟨hb2, rfl⟩
  have HB2 := Lib.hid (HB1.out.trans (hb2.mono HB1.out.size))
  clear hb2
  go_wp2_with fail
  go_ret
  exact ⟨rfl, HB2.out.alloc HB2.out.size _⟩
theorem plcs_at (L : List UInt8) : ∀ (ts : List Tkn) (fr : Nat), plcs L fr ts → ts ≠ [] → ∃ t us, ts = t :: us ∧ fr ≤ t.a ∧ t.a < L.length ∧ ((t.k = 4 ∧ (L.drop t.a).head? = some 34 ∧ plcs L (t.a + 1) us) ∨ (t.k ≠ 4 ∧ 1 ≤ t.s.length ∧ t.a + t.s.length ≤ L.length ∧ t.s = (L.drop t.a).take t.s.length ∧ plcs L (t.a + t.s.length) us))
  | [], _, _, h => absurd rfl h
  | t :: us, fr, h, _ => ⟨t, us, rfl, h⟩
theorem drop_is {ts us : List Tkn} {k : Nat} {t : Tkn} (h : ts.drop k = t :: us) : ts[k]? = some t ∧ ts.drop (k + 1) = us ∧ k < ts.length := by
  have hk : k < ts.length := by
    rcases Nat.lt_or_ge k ts.length with h' | h'
    · exact h'
    · rw [List.drop_of_length_le h'] at h; cases h
  rw [List.drop_eq_getElem_cons hk] at h
  injection h with h1 h2
  exact ⟨by rw [List.getElem?_eq_getElem hk, h1], h2, hk⟩
set_option maxHeartbeats 2000000 in
set_option maxRecDepth 100000 in
theorem walk_ok (W : World) (hL : LV W) (s : ByteArray) (hs : s.size ≤ 600) (ts : List Tkn) (hx : lexB s = .inl ts) : Calls Tryz.prog 8 #[.string s] W (ends W) := by
  have HL := Lib.hid hL
  have HP := Lib.hid (lexB_plcs hx)
  have hts := lexB_len hx
  have htl : ts.length ≤ 600 := by omega
  clear hts
  have hgt : decide ((600 : Int) < (s.size : Int)) = false := decide_eq_false (by omega)
  have KL : Hid (∀ w, LV w → Calls Tryz.prog 10 #[.string s] w (LxQ (.inl ts) w)) := Lib.hid (fun w hw => by rw [← hx]; exact lex_read s (by omega) w hw)
  clear hL hx
  go_enter Tryz.func8, Tryz.ntmps8
  go_wp2_with fail
  refine (awake_any _ HL.out).mono ?_
  rintro e w1 ⟨rfl, hb1⟩
  have HB1 := Lib.hid hb1
  clear hb1
  go_wp2_with fail
  refine (KL.out w1 (HL.out.go HB1.out)).mono ?_
  rintro e w2 ⟨hb2, a, c, rfl, hT⟩
  have HB2 := Lib.hid (HB1.out.trans (hb2.mono HB1.out.size))
  have HT := Lib.hid hT
  clear hb2 hT KL
  go_wp2_with fail
  have HB3 := Lib.hid (HB2.out.alloc HB2.out.size (.cells #[.int .i64 0, .int .i64 0] 26))
  have HT3 := Lib.hid (HT.out.alloc (.cells #[.int .i64 0, .int .i64 0] 26))
  generalize w2.alloc (.cells #[.int .i64 0, .int .i64 0] 26) = w3 at HB3 HT3 ⊢
  go_loopw [5, 6] (fun v5 v6 wr => ∃ (fr k : Nat), v5 = .int .i64 (fr : Nat) ∧ v6 = .int .i64 (k : Nat) ∧ k ≤ ts.length ∧ plcs s.data.toList fr (ts.drop k) ∧ Below W.heap.size W wr ∧ TkL wr a (ts.map tz)) (fun _ v6 _ => ts.length - (intOf v6).toNat)
  case atStart => exact ⟨0, 0, rfl, rfl, Nat.zero_le _, HP.out, HB3.out, HT3.out⟩
  case round =>
    obtain ⟨fr, k, rfl, rfl, hk, hp, hbr, htr⟩ := hrel
    have HBr := Lib.hid hbr
    have HTr := Lib.hid htr
    clear hbr htr
    by_cases hlt : k < ts.length
    · obtain ⟨t, us, hd, hfr, hal, hw⟩ := plcs_at _ _ _ hp (by intro e; have := congrArg List.length e; rw [List.length_drop, List.length_nil] at this; omega)
      obtain ⟨htk, hd2, -⟩ := drop_is hd
      obtain ⟨ad, rfl, hadb, hz⟩ := HTr.out (by intro e; have := congrArg List.length e; rw [List.length_map, List.length_nil] at this; omega)
      obtain ⟨c0, c1, c2⟩ := hz k (tz t) (tz_list ts k t htk)
      have HD2 := Lib.hid hd2
      have hal : t.a < s.size := by rw [Lib.size_eq]; exact hal
      obtain ⟨A, hA⟩ : ∃ A, t.a = A := ⟨_, rfl⟩
      obtain ⟨K, hK⟩ : ∃ K : Int, (t.k : Int) = K := ⟨_, rfl⟩
      simp only [tz] at c0 c1 c2
      rw [hA] at hfr hal c2 hw
      rw [hK] at c0
      have hlf : decide ((A : Int) < (fr : Int)) = false := decide_eq_false (by omega)
      have hls : decide ((s.size : Int) ≤ (A : Int)) = false := decide_eq_false (by omega)
      have hgb := get_bang s A hal
      clear hz hd hp htk hd2
      rcases hw with ⟨h4, hh, hpl⟩ | ⟨h4, h1, hle, hse, hpl⟩
      · have hk4 : (K == 4) = true := by rw [← hK, h4]; rfl
        have h34 : (((s[A]'hal).toNat : Int) != 34) = false := by
          rw [drop_cons s A hal, List.head?_cons, Option.some.injEq] at hh
          rw [← hgb, hh]; rfl
        have HPL := Lib.hid hpl
        clear hh hpl hgb h4 hK hA
        go_wp2_with fail
        exact ⟨⟨A + 1, k + 1, by go_num, by go_num, by omega, by rw [HD2.out]; exact HPL.out, HBr.out, HTr.out⟩, by simp [intOf]; omega⟩
      · have hk4 : (K == 4) = false := by rw [beq_eq_false_iff_ne, ← hK]; omega
        obtain ⟨N, hN⟩ : ∃ N, t.s.length = N := ⟨_, rfl⟩
        rw [hN] at h1 hle hse hpl
        have hle : A + N ≤ s.size := by rw [Lib.size_eq]; exact hle
        have hS : (⟨t.s.toArray⟩ : ByteArray) = s.extract A (A + N) := by
          refine ByteArray.ext (Array.toList_inj.1 ?_)
          show t.s.toArray.toList = _
          rw [List.toList_toArray, Lib.extract_data, Nat.add_sub_cancel_left]
          exact hse
        have hSz : (s.extract A (A + N)).size = N := by rw [ByteArray.size_extract]; omega
        rw [hS] at c1
        have HPL := Lib.hid hpl
        have hn0 : ((N : Int) == 0) = false := by simp; omega
        have hng : decide (((s.size : Int) - (A : Int)) < (N : Int)) = false := decide_eq_false (by omega)
        have hw1 : IntKind.i64.wrap ((s.size : Int) - (A : Int)) = (s.size : Int) - (A : Int) := by rw [IntKind.wrap_i64]; omega
        have hw2 : IntKind.i64.wrap ((A : Int) + (N : Int)) = (A : Int) + (N : Int) := by rw [IntKind.wrap_i64]; omega
        clear hse hpl hgb h4 hK hA hS hN
        go_wp2_with fail
        go_quiet (fail)
        go_wp2_with fail
        exact ⟨⟨A + N, k + 1, by go_num, by go_num, by omega, by rw [HD2.out]; exact HPL.out, Go.below_drewN HBr.out _, HTr.out.drewN _⟩, by simp [intOf]; omega⟩
    · go_wp2_with fail
      go_ret
      exact ⟨rfl, HBr.out⟩
theorem walk (W : World) (hL : LV W) (s : ByteArray) (hs : s.size ≤ maxLen) : Calls Tryz.prog 8 #[.string s] W fun e W' => e = .returned (.bool true) ∧ Below W.heap.size W W' := by
  show Calls _ _ _ _ (ends W)
  by_cases hl : 600 < s.size
  · exact walk_long W hL s hs hl
  cases hx : lexB s with
  | inl ts => exact walk_ok W hL s (by omega) ts hx
  | inr q => exact walk_err W hL s (by omega) q.1 q.2 hx
end Go.Proofs.YtejniiehfangkaaGreatDoor.TokenPlaces
