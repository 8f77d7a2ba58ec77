/- tree.rightKind, walked. -/
import Derived.Test.YtbinmhcjadkmgaaDoorTKeys
set_option linter.unusedVariables false
set_option linter.unusedSimpArgs false
namespace Go.Proofs.YtbinmhcjadkmgaaDoor
open Go.RowKit
theorem beq_no {a b : Int} (h : a ≠ b) : (a == b) = false := by simpa using h
set_option maxHeartbeats 2000000 in
set_option maxRecDepth 100000 in
theorem kind_any (h : Hd) (ks : List ByteArray) (w : World) (hb : (-9223372036854775808 ≤ h.n ∧ h.n ≤ 9223372036854775807)) (hs5 : h.s.size ≤ maxLen) (b5' : h.la ≤ 9223372036854775807) (hlf : h.lf = ks.length) (hkn : ks.length ≤ 1000) (hsz : ∀ x ∈ ks, x.size ≤ maxLen) (hA : KeyRow w h.F ks) :
    Calls Tryd.prog 23 #[h.val] w fun e w' => YesNo (TopP h.k h.n h.s h.la h.lf ∧ KeysP ks) w e w' := by
  obtain ⟨hk, hnn, hs, A, la, lc, F, lf, fc⟩ := h
  unfold Hd.val
  simp only at hs5 b5' hb hlf hA ⊢
  subst hlf
  obtain ⟨hb1, hb2⟩ := hb
  have hb0 : ∀ o1, Below w.heap.size w (w.alloc o1) := fun o1 => (Below.refl _ _).alloc (Nat.le_refl _) _
  have HB0 := Lib.hid hb0
  have HA := Lib.hid hA
  clear hb0 hA
  by_cases hin : ¬ (0 ≤ hk ∧ hk ≤ 5)
  · have d0 := beq_no (show hk ≠ 0 by omega)
    have d1 := beq_no (show hk ≠ 1 by omega)
    have d2 := beq_no (show hk ≠ 2 by omega)
    have d3 := beq_no (show hk ≠ 3 by omega)
    have d4 := beq_no (show hk ≠ 4 by omega)
    have d5 := beq_no (show hk ≠ 5 by omega)
    have HIN := Lib.hid hin
    clear hin
    go_enter Tryd.func23, Tryd.ntmps23
    go_wp2_with fail
    go_quiet (fail)
    go_wp2_with fail
    go_ret
    exact YesNo.no (fun h => HIN.out ⟨h.1.k0, h.1.k5⟩) (below_drewN' (HB0.out _) _)
  have HKK := Lib.hid (show hk = 0 ∨ hk = 1 ∨ hk = 2 ∨ hk = 3 ∨ hk = 4 ∨ hk = 5 by omega)
  clear hin
  rcases HKK.out with rfl | rfl | rfl | rfl | rfl | rfl
  · clear HKK
    by_cases hn0 : hnn = 0
    case neg =>
      have dn0 := beq_no hn0
      have HX := Lib.hid hn0
      clear hn0
      go_enter Tryd.func23, Tryd.ntmps23
      go_wp2_with fail
      go_quiet (fail)
      go_wp2_with fail
      go_ret
      exact YesNo.no (fun h => h.1.c1 ⟨by decide, by decide, HX.out⟩) (below_drewN' (HB0.out _) _)
    subst hn0
    by_cases hS0 : hs.size = 0
    case neg =>
      have ds := ne_empty hS0
      have HX := Lib.hid hS0
      clear hS0
      go_enter Tryd.func23, Tryd.ntmps23
      go_wp2_with fail
      go_quiet (fail)
      go_wp2_with fail
      go_ret
      exact YesNo.no (fun h => h.1.c2 ⟨by decide, HX.out⟩) (below_drewN' (HB0.out _) _)
    have ds := is_empty hS0
    have HS := Lib.hid hS0
    clear hS0
    by_cases hl : la = 0
    case neg =>
      have dl := beq_no (show (la : Int) ≠ 0 by omega)
      have HX := Lib.hid hl
      go_enter Tryd.func23, Tryd.ntmps23
      go_wp2_with fail
      go_quiet (fail)
      go_wp2_with fail
      go_ret
      exact YesNo.no (fun h => h.1.c3 ⟨by decide, by have := HX.out; omega⟩) (below_drewN' (HB0.out _) _)
    subst hl
    by_cases hf : ks.length = 0
    case neg =>
      have df := beq_no (show (ks.length : Int) ≠ 0 by omega)
      have HX := Lib.hid hf
      go_enter Tryd.func23, Tryd.ntmps23
      go_wp2_with fail
      go_quiet (fail)
      go_wp2_with fail
      go_ret
      exact YesNo.no (fun h => h.1.c4 ⟨by decide, by have := HX.out; omega⟩) (below_drewN' (HB0.out _) _)
    have df : ((ks.length : Int) == 0) = true := by simp; exact List.length_eq_zero_iff.1 hf
    have HF := Lib.hid hf
    clear hf
    go_enter Tryd.func23, Tryd.ntmps23
    go_wp2_with fail
    go_quiet (fail)
    go_wp2_with fail
    go_ret
    refine YesNo.yes ⟨⟨by decide, by decide, ?_, ?_, ?_, ?_, ?_, ?_, ?_, ?_⟩, ?_⟩ (below_drewN' (HB0.out _) _)
    all_goals first
      | decide
      | omega
      | exact HRV.out
      | (intro h; have := h.2; omega)
      | (have e := empty_of HS.out; rw [e]; exact rightB_empty)
      | (have e := List.length_eq_zero_iff.1 HF.out; rw [e]; exact KeysP_nil)
      | (intro h; have := HS.out; have := h.2; omega)
      | (intro h; have := HF.out; have := h.2; omega)
      | (intro h; have := HN1.out; have := h.2; omega)
      | (have := HN1.out; omega)
  · clear HKK
    by_cases hn01 : hnn = 0 ∨ hnn = 1
    case neg =>
      have dn010 := beq_no (show hnn ≠ 0 by omega)
      have dn011 := beq_no (show hnn ≠ 1 by omega)
      have HX := Lib.hid hn01
      clear hn01
      go_enter Tryd.func23, Tryd.ntmps23
      go_wp2_with fail
      go_quiet (fail)
      go_wp2_with fail
      go_ret
      exact YesNo.no (fun h => h.1.c5 ⟨rfl, fun e => HX.out (.inl e), fun e => HX.out (.inr e)⟩) (below_drewN' (HB0.out _) _)
    have HN1 := Lib.hid hn01
    clear hn01
    rcases HN1.out with rfl | rfl
    · clear HN1
      by_cases hS0 : hs.size = 0
      case neg =>
        have ds := ne_empty hS0
        have HX := Lib.hid hS0
        clear hS0
        go_enter Tryd.func23, Tryd.ntmps23
        go_wp2_with fail
        go_quiet (fail)
        go_wp2_with fail
        go_ret
        exact YesNo.no (fun h => h.1.c2 ⟨by decide, HX.out⟩) (below_drewN' (HB0.out _) _)
      have ds := is_empty hS0
      have HS := Lib.hid hS0
      clear hS0
      by_cases hl : la = 0
      case neg =>
        have dl := beq_no (show (la : Int) ≠ 0 by omega)
        have HX := Lib.hid hl
        go_enter Tryd.func23, Tryd.ntmps23
        go_wp2_with fail
        go_quiet (fail)
        go_wp2_with fail
        go_ret
        exact YesNo.no (fun h => h.1.c3 ⟨by decide, by have := HX.out; omega⟩) (below_drewN' (HB0.out _) _)
      subst hl
      by_cases hf : ks.length = 0
      case neg =>
        have df := beq_no (show (ks.length : Int) ≠ 0 by omega)
        have HX := Lib.hid hf
        go_enter Tryd.func23, Tryd.ntmps23
        go_wp2_with fail
        go_quiet (fail)
        go_wp2_with fail
        go_ret
        exact YesNo.no (fun h => h.1.c4 ⟨by decide, by have := HX.out; omega⟩) (below_drewN' (HB0.out _) _)
      have df : ((ks.length : Int) == 0) = true := by simp; exact List.length_eq_zero_iff.1 hf
      have HF := Lib.hid hf
      clear hf
      go_enter Tryd.func23, Tryd.ntmps23
      go_wp2_with fail
      go_quiet (fail)
      go_wp2_with fail
      go_ret
      refine YesNo.yes ⟨⟨by decide, by decide, ?_, ?_, ?_, ?_, ?_, ?_, ?_, ?_⟩, ?_⟩ (below_drewN' (HB0.out _) _)
      all_goals first
        | decide
        | omega
        | exact HRV.out
        | (intro h; have := h.2; omega)
        | (have e := empty_of HS.out; rw [e]; exact rightB_empty)
        | (have e := List.length_eq_zero_iff.1 HF.out; rw [e]; exact KeysP_nil)
        | (intro h; have := HS.out; have := h.2; omega)
        | (intro h; have := HF.out; have := h.2; omega)
        | (intro h; have := HN1.out; have := h.2; omega)
        | (have := HN1.out; omega)
    · clear HN1
      by_cases hS0 : hs.size = 0
      case neg =>
        have ds := ne_empty hS0
        have HX := Lib.hid hS0
        clear hS0
        go_enter Tryd.func23, Tryd.ntmps23
        go_wp2_with fail
        go_quiet (fail)
        go_wp2_with fail
        go_ret
        exact YesNo.no (fun h => h.1.c2 ⟨by decide, HX.out⟩) (below_drewN' (HB0.out _) _)
      have ds := is_empty hS0
      have HS := Lib.hid hS0
      clear hS0
      by_cases hl : la = 0
      case neg =>
        have dl := beq_no (show (la : Int) ≠ 0 by omega)
        have HX := Lib.hid hl
        go_enter Tryd.func23, Tryd.ntmps23
        go_wp2_with fail
        go_quiet (fail)
        go_wp2_with fail
        go_ret
        exact YesNo.no (fun h => h.1.c3 ⟨by decide, by have := HX.out; omega⟩) (below_drewN' (HB0.out _) _)
      subst hl
      by_cases hf : ks.length = 0
      case neg =>
        have df := beq_no (show (ks.length : Int) ≠ 0 by omega)
        have HX := Lib.hid hf
        go_enter Tryd.func23, Tryd.ntmps23
        go_wp2_with fail
        go_quiet (fail)
        go_wp2_with fail
        go_ret
        exact YesNo.no (fun h => h.1.c4 ⟨by decide, by have := HX.out; omega⟩) (below_drewN' (HB0.out _) _)
      have df : ((ks.length : Int) == 0) = true := by simp; exact List.length_eq_zero_iff.1 hf
      have HF := Lib.hid hf
      clear hf
      go_enter Tryd.func23, Tryd.ntmps23
      go_wp2_with fail
      go_quiet (fail)
      go_wp2_with fail
      go_ret
      refine YesNo.yes ⟨⟨by decide, by decide, ?_, ?_, ?_, ?_, ?_, ?_, ?_, ?_⟩, ?_⟩ (below_drewN' (HB0.out _) _)
      all_goals first
        | decide
        | omega
        | exact HRV.out
        | (intro h; have := h.2; omega)
        | (have e := empty_of HS.out; rw [e]; exact rightB_empty)
        | (have e := List.length_eq_zero_iff.1 HF.out; rw [e]; exact KeysP_nil)
        | (intro h; have := HS.out; have := h.2; omega)
        | (intro h; have := HF.out; have := h.2; omega)
        | (intro h; have := HN1.out; have := h.2; omega)
        | (have := HN1.out; omega)
  · clear HKK
    by_cases hlo : -9007199254740991 ≤ hnn
    case neg =>
      skip
      have HX := Lib.hid hlo
      go_enter Tryd.func23, Tryd.ntmps23
      go_wp2_with fail
      go_quiet (fail)
      go_wp2_with fail
      go_ret
      exact YesNo.no (fun h => by have := h.1.c7; have := HX.out; omega) (below_drewN' (HB0.out _) _)
    skip
    by_cases hhi : hnn ≤ 9007199254740991
    case neg =>
      skip
      have HX := Lib.hid hhi
      go_enter Tryd.func23, Tryd.ntmps23
      go_wp2_with fail
      go_quiet (fail)
      go_wp2_with fail
      go_ret
      exact YesNo.no (fun h => by have := h.1.c6; have := HX.out; omega) (below_drewN' (HB0.out _) _)
    skip
    by_cases hS0 : hs.size = 0
    case neg =>
      have ds := ne_empty hS0
      have HX := Lib.hid hS0
      clear hS0
      go_enter Tryd.func23, Tryd.ntmps23
      go_wp2_with fail
      go_quiet (fail)
      go_wp2_with fail
      go_ret
      exact YesNo.no (fun h => h.1.c2 ⟨by decide, HX.out⟩) (below_drewN' (HB0.out _) _)
    have ds := is_empty hS0
    have HS := Lib.hid hS0
    clear hS0
    by_cases hl : la = 0
    case neg =>
      have dl := beq_no (show (la : Int) ≠ 0 by omega)
      have HX := Lib.hid hl
      go_enter Tryd.func23, Tryd.ntmps23
      go_wp2_with fail
      go_quiet (fail)
      go_wp2_with fail
      go_ret
      exact YesNo.no (fun h => h.1.c3 ⟨by decide, by have := HX.out; omega⟩) (below_drewN' (HB0.out _) _)
    subst hl
    by_cases hf : ks.length = 0
    case neg =>
      have df := beq_no (show (ks.length : Int) ≠ 0 by omega)
      have HX := Lib.hid hf
      go_enter Tryd.func23, Tryd.ntmps23
      go_wp2_with fail
      go_quiet (fail)
      go_wp2_with fail
      go_ret
      exact YesNo.no (fun h => h.1.c4 ⟨by decide, by have := HX.out; omega⟩) (below_drewN' (HB0.out _) _)
    have df : ((ks.length : Int) == 0) = true := by simp; exact List.length_eq_zero_iff.1 hf
    have HF := Lib.hid hf
    clear hf
    go_enter Tryd.func23, Tryd.ntmps23
    go_wp2_with fail
    go_quiet (fail)
    go_wp2_with fail
    go_ret
    refine YesNo.yes ⟨⟨by decide, by decide, ?_, ?_, ?_, ?_, ?_, ?_, ?_, ?_⟩, ?_⟩ (below_drewN' (HB0.out _) _)
    all_goals first
      | decide
      | omega
      | exact HRV.out
      | (intro h; have := h.2; omega)
      | (have e := empty_of HS.out; rw [e]; exact rightB_empty)
      | (have e := List.length_eq_zero_iff.1 HF.out; rw [e]; exact KeysP_nil)
      | (intro h; have := HS.out; have := h.2; omega)
      | (intro h; have := HF.out; have := h.2; omega)
      | (intro h; have := HN1.out; have := h.2; omega)
      | (have := HN1.out; omega)
  · clear HKK
    by_cases hn0 : hnn = 0
    case neg =>
      have dn0 := beq_no hn0
      have HX := Lib.hid hn0
      clear hn0
      go_enter Tryd.func23, Tryd.ntmps23
      go_wp2_with fail
      go_quiet (fail)
      go_wp2_with fail
      go_ret
      exact YesNo.no (fun h => h.1.c1 ⟨by decide, by decide, HX.out⟩) (below_drewN' (HB0.out _) _)
    subst hn0
    cases hrv : rightB hs
    · have HRV := Lib.hid hrv
      clear hrv
      go_enter Tryd.func23, Tryd.ntmps23
      go_wp2_with fail
      go_quiet (fail)
      go_wp2_with fail
      refine (right_any hs hs5 _).mono ?_
      rintro e w1 ⟨rfl, hbr⟩
      rw [HRV.out]
      have HBR := Lib.hid hbr
      clear hbr
      go_wp2_with fail
      go_ret
      exact YesNo.no (fun h => by have := h.1.c8; rw [HRV.out] at this; cases this) ((below_drewN' (HB0.out _) _).trans (HBR.out.mono (by simp)))
    have HRV := Lib.hid hrv
    clear hrv
    by_cases hl : la = 0
    case neg =>
      have dl := beq_no (show (la : Int) ≠ 0 by omega)
      have HX := Lib.hid hl
      go_enter Tryd.func23, Tryd.ntmps23
      go_wp2_with fail
      go_quiet (fail)
      go_wp2_with fail
      refine (right_any hs hs5 _).mono ?_
      rintro e w1 ⟨rfl, hbr⟩
      rw [HRV.out]
      have HBR := Lib.hid hbr
      clear hbr
      go_wp2_with fail
      go_ret
      exact YesNo.no (fun h => h.1.c3 ⟨by decide, by have := HX.out; omega⟩) ((below_drewN' (HB0.out _) _).trans (HBR.out.mono (by simp)))
    subst hl
    by_cases hf : ks.length = 0
    case neg =>
      have df := beq_no (show (ks.length : Int) ≠ 0 by omega)
      have HX := Lib.hid hf
      go_enter Tryd.func23, Tryd.ntmps23
      go_wp2_with fail
      go_quiet (fail)
      go_wp2_with fail
      refine (right_any hs hs5 _).mono ?_
      rintro e w1 ⟨rfl, hbr⟩
      rw [HRV.out]
      have HBR := Lib.hid hbr
      clear hbr
      go_wp2_with fail
      go_ret
      exact YesNo.no (fun h => h.1.c4 ⟨by decide, by have := HX.out; omega⟩) ((below_drewN' (HB0.out _) _).trans (HBR.out.mono (by simp)))
    have df : ((ks.length : Int) == 0) = true := by simp; exact List.length_eq_zero_iff.1 hf
    have HF := Lib.hid hf
    clear hf
    go_enter Tryd.func23, Tryd.ntmps23
    go_wp2_with fail
    go_quiet (fail)
    go_wp2_with fail
    refine (right_any hs hs5 _).mono ?_
    rintro e w1 ⟨rfl, hbr⟩
    rw [HRV.out]
    have HBR := Lib.hid hbr
    clear hbr
    go_wp2_with fail
    go_ret
    refine YesNo.yes ⟨⟨by decide, by decide, ?_, ?_, ?_, ?_, ?_, ?_, ?_, ?_⟩, ?_⟩ ((below_drewN' (HB0.out _) _).trans (HBR.out.mono (by simp)))
    all_goals first
      | decide
      | omega
      | exact HRV.out
      | (intro h; have := h.2; omega)
      | (have e := empty_of HS.out; rw [e]; exact rightB_empty)
      | (have e := List.length_eq_zero_iff.1 HF.out; rw [e]; exact KeysP_nil)
      | (intro h; have := HS.out; have := h.2; omega)
      | (intro h; have := HF.out; have := h.2; omega)
      | (intro h; have := HN1.out; have := h.2; omega)
      | (have := HN1.out; omega)
  · clear HKK
    by_cases hn0 : hnn = 0
    case neg =>
      have dn0 := beq_no hn0
      have HX := Lib.hid hn0
      clear hn0
      go_enter Tryd.func23, Tryd.ntmps23
      go_wp2_with fail
      go_quiet (fail)
      go_wp2_with fail
      go_ret
      exact YesNo.no (fun h => h.1.c1 ⟨by decide, by decide, HX.out⟩) (below_drewN' (HB0.out _) _)
    subst hn0
    by_cases hS0 : hs.size = 0
    case neg =>
      have ds := ne_empty hS0
      have HX := Lib.hid hS0
      clear hS0
      go_enter Tryd.func23, Tryd.ntmps23
      go_wp2_with fail
      go_quiet (fail)
      go_wp2_with fail
      go_ret
      exact YesNo.no (fun h => h.1.c2 ⟨by decide, HX.out⟩) (below_drewN' (HB0.out _) _)
    have ds := is_empty hS0
    have HS := Lib.hid hS0
    clear hS0
    by_cases hf : ks.length = 0
    case neg =>
      have df := beq_no (show (ks.length : Int) ≠ 0 by omega)
      have HX := Lib.hid hf
      go_enter Tryd.func23, Tryd.ntmps23
      go_wp2_with fail
      go_quiet (fail)
      go_wp2_with fail
      go_ret
      exact YesNo.no (fun h => h.1.c4 ⟨by decide, by have := HX.out; omega⟩) (below_drewN' (HB0.out _) _)
    have df : ((ks.length : Int) == 0) = true := by simp; exact List.length_eq_zero_iff.1 hf
    have HF := Lib.hid hf
    clear hf
    go_enter Tryd.func23, Tryd.ntmps23
    go_wp2_with fail
    go_quiet (fail)
    go_wp2_with fail
    go_ret
    refine YesNo.yes ⟨⟨by decide, by decide, ?_, ?_, ?_, ?_, ?_, ?_, ?_, ?_⟩, ?_⟩ (below_drewN' (HB0.out _) _)
    all_goals first
      | decide
      | omega
      | exact HRV.out
      | (intro h; have := h.2; omega)
      | (have e := empty_of HS.out; rw [e]; exact rightB_empty)
      | (have e := List.length_eq_zero_iff.1 HF.out; rw [e]; exact KeysP_nil)
      | (intro h; have := HS.out; have := h.2; omega)
      | (intro h; have := HF.out; have := h.2; omega)
      | (intro h; have := HN1.out; have := h.2; omega)
      | (have := HN1.out; omega)
  · clear HKK
    by_cases hn0 : hnn = 0
    case neg =>
      have dn0 := beq_no hn0
      have HX := Lib.hid hn0
      clear hn0
      go_enter Tryd.func23, Tryd.ntmps23
      go_wp2_with fail
      go_quiet (fail)
      go_wp2_with fail
      go_ret
      exact YesNo.no (fun h => h.1.c1 ⟨by decide, by decide, HX.out⟩) (below_drewN' (HB0.out _) _)
    subst hn0
    by_cases hS0 : hs.size = 0
    case neg =>
      have ds := ne_empty hS0
      have HX := Lib.hid hS0
      clear hS0
      go_enter Tryd.func23, Tryd.ntmps23
      go_wp2_with fail
      go_quiet (fail)
      go_wp2_with fail
      go_ret
      exact YesNo.no (fun h => h.1.c2 ⟨by decide, HX.out⟩) (below_drewN' (HB0.out _) _)
    have ds := is_empty hS0
    have HS := Lib.hid hS0
    clear hS0
    by_cases hl : la = 0
    case neg =>
      have dl := beq_no (show (la : Int) ≠ 0 by omega)
      have HX := Lib.hid hl
      go_enter Tryd.func23, Tryd.ntmps23
      go_wp2_with fail
      go_quiet (fail)
      go_wp2_with fail
      go_ret
      exact YesNo.no (fun h => h.1.c3 ⟨by decide, by have := HX.out; omega⟩) (below_drewN' (HB0.out _) _)
    subst hl
    go_enter Tryd.func23, Tryd.ntmps23
    go_wp2_with fail
    go_quiet (fail)
    go_wp2_with fail
    refine (keys_any ks F fc _ hkn hsz ?_).mono ?_
    · exact HA.out.below (below_drewN' ((Below.refl w.heap.size w).alloc (Nat.le_refl _) _) _) (Nat.le_refl _)
    rintro e w1 ⟨r, rfl, hr, hbr⟩
    have HR := Lib.hid hr
    have HBR := Lib.hid hbr
    clear hr hbr
    cases r
    · go_wp2_with fail
      go_ret
      exact YesNo.no (fun h => by have := HR.out.2 h.2; cases this) ((below_drewN' (HB0.out _) _).trans (HBR.out.mono (by simp)))
    · go_wp2_with fail
      go_ret
      refine YesNo.yes ⟨⟨by decide, by decide, ?_, ?_, ?_, ?_, ?_, ?_, ?_, ?_⟩, HR.out.1 (by first | rfl | trivial)⟩ ((below_drewN' (HB0.out _) _).trans (HBR.out.mono (by simp)))
      all_goals first
        | decide
        | omega
        | (intro h; have := h.2; omega)
        | (have e := empty_of HS.out; rw [e]; exact rightB_empty)
        | (intro h; have := HS.out; have := h.2; omega)
end Go.Proofs.YtbinmhcjadkmgaaDoor
