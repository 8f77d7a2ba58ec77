/- The document's own Unquote, walked: four, sign. -/
import Derived.Test.YtmkenjelcmpghaaDoorRuneR
import Derived.Test.YtmkenjelcmpghaaDoorUWalk
set_option linter.unusedVariables false
set_option linter.unusedSimpArgs false
namespace Go.Proofs.YtmkenjelcmpghaaDoor
open Go.RowKit
/-- The number of the first k digits from i on. -/
def vkA (s : ByteArray) (i : Nat) : Nat → Nat
  | 0 => 0
  | k + 1 => vkA s i k * 16 + g4 s i k
def DigsA (s : ByteArray) (i k : Nat) : Prop := ∀ j, j < k → g4 s i j < 16
theorem vkA_bd (s : ByteArray) (i k : Nat) (h : DigsA s i k) (hk : k ≤ 4) : vkA s i k ≤ 65535 ∧ (k < 4 → vkA s i k ≤ 4095) := by
  match k, hk with
  | 0, _ => simp [vkA]
  | 1, _ => have := h 0 (by omega); simp [vkA]; omega
  | 2, _ => have := h 0 (by omega); have := h 1 (by omega); simp [vkA]; omega
  | 3, _ => have := h 0 (by omega); have := h 1 (by omega); have := h 2 (by omega); simp [vkA]; omega
  | 4, _ => have := h 0 (by omega); have := h 1 (by omega); have := h 2 (by omega); have := h 3 (by omega); simp [vkA]; omega
theorem digsA_next {s : ByteArray} {i k : Nat} (h : DigsA s i k) (hk : g4 s i k < 16) : DigsA s i (k + 1) := by
  intro j hj
  by_cases e : j = k
  · subst e; exact hk
  · exact h j (by omega)
def fourI (s : ByteArray) (i : Nat) : Int := if is4 s i then (v4 s i : Int) else -1
theorem four_end (s : ByteArray) (i : Nat) (h : ¬ i + 4 ≤ s.size) : fourI s i = -1 := by
  unfold fourI; rw [if_neg]; simp only [is4, Bool.and_eq_true, decide_eq_true_eq]; exact fun x => h x.1
theorem four_no (s : ByteArray) (i k : Nat) (hk : k < 4) (h : g4 s i k = 16) : fourI s i = -1 := by
  unfold fourI
  rw [if_neg]
  simp only [is4, Bool.and_eq_true, decide_eq_true_eq]
  obtain rfl | rfl | rfl | rfl : k = 0 ∨ k = 1 ∨ k = 2 ∨ k = 3 := by omega
  all_goals omega
theorem four_yes (s : ByteArray) (i : Nat) (hz : i + 4 ≤ s.size) (h : DigsA s i 4) : fourI s i = (vkA s i 4 : Int) := by
  unfold fourI
  rw [if_pos]
  · rw [show v4 s i = vkA s i 4 by simp [v4, vkA]]
  · simp only [is4, Bool.and_eq_true, decide_eq_true_eq]
    exact ⟨hz, ⟨⟨h 0 (by omega), h 1 (by omega)⟩, h 2 (by omega)⟩, h 3 (by omega)⟩
set_option maxHeartbeats 2000000 in
set_option maxRecDepth 100000 in
theorem four_any (s : ByteArray) (hs : s.size ≤ 1048576) (i : Nat) (hi : i ≤ 1048600) (w : World) : Calls Tryd.prog 35 #[.string s, .int .i64 i] w fun e w' => e = .returned (.int .i64 (fourI s i)) ∧ w = w' := by
  by_cases h4 : i + 4 ≤ s.size
  · have h4' : ¬ (s.size : Int) - 3 ≤ (i : Int) := by omega
    go_enter Tryd.func35, Tryd.ntmps35
    go_wp2_with fail
    clear h4'
    go_loop [5, 6] (fun n j => ∃ k : Nat, k ≤ 4 ∧ j = .int .i64 (i + k : Nat) ∧ n = .int .i64 (vkA s i k) ∧ DigsA s i k) (fun _ j => i + 4 - (intOf j).toNat)
    case atStart => exact ⟨0, by omega, rfl, rfl, fun j hj => by omega⟩
    case round =>
      obtain ⟨k, hk, rfl, rfl, hd⟩ := hrel
      have HD := Lib.hid hd
      obtain ⟨hv, hv4⟩ := vkA_bd s i k hd hk
      clear hd
      by_cases hlt : k < 4
      · have hv3 := hv4 hlt
        have hin : i + k < s.size := by omega
        have hc8 : s[i + k].toNat < 256 := s[i + k].toNat_lt
        have HG : Hid (g4 s i k = dg s[i + k].toNat) := by unfold g4; rw [get_bang s (i + k) hin]; exact Lib.hid rfl
        have HZ : Hid (∀ d : Nat, dg s[i + k].toNat = d → d < 16 → vkA s i (k + 1) = vkA s i k * 16 + d ∧ DigsA s i (k + 1)) := fun d hd hd16 => by
          have e1 : vkA s i (k + 1) = vkA s i k * 16 + g4 s i k := rfl
          rw [HG.out, hd] at e1
          exact ⟨e1, digsA_next HD.out (by rw [HG.out, hd]; exact hd16)⟩
        have HN : Hid (dg s[i + k].toNat = 16 → fourI s i = -1) := fun h => four_no s i k hlt (by rw [HG.out]; exact h)
        generalize hV : (vkA s i k : Int) = V at *
        have HV := Lib.hid hV
        have hV0 : 0 ≤ V := by omega
        have hV3 : V ≤ 4095 := by omega
        clear hV hv hv4 hv3
        by_cases c1 : 48 ≤ s[i + k].toNat ∧ s[i + k].toNat ≤ 57
        · have E := Lib.hid (HZ.out (s[i + k].toNat - 48) (by unfold dg; rw [if_pos c1]) (by omega))
          obtain ⟨c1, c2⟩ := c1
          go_wp2_with fail
          exact ⟨⟨k + 1, by omega, by go_num, val_int (by rw [E.out.1]; have := HV.out; omega), E.out.2⟩, by simp [intOf]; omega⟩
        · have C1 := Lib.hid c1
          clear c1
          by_cases a1 : s[i + k].toNat < 48
          · have E := Lib.hid (HN.out (by unfold dg; rw [if_neg (by omega), if_neg (by omega), if_neg (by omega)]))
            go_wp2_with fail
            go_ret
            exact ⟨ret_int E.out.symm, rfl⟩
          by_cases a2 : s[i + k].toNat ≤ 57
          · exact absurd ⟨by omega, a2⟩ C1.out
          by_cases a3 : s[i + k].toNat < 65
          · have E := Lib.hid (HN.out (by unfold dg; rw [if_neg (by omega), if_neg (by omega), if_neg (by omega)]))
            go_wp2_with fail
            go_ret
            exact ⟨ret_int E.out.symm, rfl⟩
          by_cases a4 : s[i + k].toNat ≤ 70
          · have E := Lib.hid (HZ.out (s[i + k].toNat - 55) (by unfold dg; rw [if_neg (by omega), if_neg (by omega), if_pos (by omega)]) (by omega))
            go_wp2_with fail
            exact ⟨⟨k + 1, by omega, by go_num, val_int (by rw [E.out.1]; have := HV.out; omega), E.out.2⟩, by simp [intOf]; omega⟩
          by_cases a5 : s[i + k].toNat < 97
          · have E := Lib.hid (HN.out (by unfold dg; rw [if_neg (by omega), if_neg (by omega), if_neg (by omega)]))
            go_wp2_with fail
            go_ret
            exact ⟨ret_int E.out.symm, rfl⟩
          by_cases a6 : s[i + k].toNat ≤ 102
          · have E := Lib.hid (HZ.out (s[i + k].toNat - 87) (by unfold dg; rw [if_neg (by omega), if_pos (by omega)]) (by omega))
            go_wp2_with fail
            exact ⟨⟨k + 1, by omega, by go_num, val_int (by rw [E.out.1]; have := HV.out; omega), E.out.2⟩, by simp [intOf]; omega⟩
          · have E := Lib.hid (HN.out (by unfold dg; rw [if_neg (by omega), if_neg (by omega), if_neg (by omega)]))
            go_wp2_with fail
            go_ret
            exact ⟨ret_int E.out.symm, rfl⟩
      · obtain rfl : k = 4 := by omega
        go_wp2_with fail
        go_ret
        exact ⟨ret_int (four_yes s i h4 HD.out).symm, rfl⟩
  · have h4' : (s.size : Int) - 3 ≤ (i : Int) := by omega
    have HN := Lib.hid (four_end s i h4)
    clear h4
    go_enter Tryd.func35, Tryd.ntmps35
    go_wp2_with fail
    go_ret
    exact ⟨ret_int HN.out.symm, rfl⟩
def sgs : ByteArray := ⟨#[34, 92, 47, 98, 102, 110, 114, 116]⟩
def sts : ByteArray := ⟨#[34, 92, 47, 8, 12, 10, 13, 9]⟩
/-- The signs of one letter. -/
theorem sg_hit (s : ByteArray) (i k : Nat) (h2 : i + 2 ≤ s.size) (hk : k < 8) (h : (sgs.get! k).toNat = (s.get! (i + 1)).toNat) : escR s i = ((sts.get! k).toNat, 2) := by
  unfold escR
  rw [if_pos h2, ← h]
  obtain rfl | rfl | rfl | rfl | rfl | rfl | rfl | rfl : k = 0 ∨ k = 1 ∨ k = 2 ∨ k = 3 ∨ k = 4 ∨ k = 5 ∨ k = 6 ∨ k = 7 := by omega
  all_goals (simp [sgs, sts]; try rfl)
def NoSg (c : Nat) (k : Nat) : Prop := ∀ j, j < k → (sgs.get! j).toNat ≠ c
theorem noSg_all (c : Nat) (h : NoSg c 8) : ¬ (c = 34 ∨ c = 92 ∨ c = 47) ∧ c ≠ 98 ∧ c ≠ 102 ∧ c ≠ 110 ∧ c ≠ 114 ∧ c ≠ 116 := by
  have a0 := h 0 (by omega); have a1 := h 1 (by omega); have a2 := h 2 (by omega); have a3 := h 3 (by omega)
  have a4 := h 4 (by omega); have a5 := h 5 (by omega); have a6 := h 6 (by omega); have a7 := h 7 (by omega)
  have e0 : (sgs.get! 0).toNat = 34 := rfl
  have e1 : (sgs.get! 1).toNat = 92 := rfl
  have e2 : (sgs.get! 2).toNat = 47 := rfl
  have e3 : (sgs.get! 3).toNat = 98 := rfl
  have e4 : (sgs.get! 4).toNat = 102 := rfl
  have e5 : (sgs.get! 5).toNat = 110 := rfl
  have e6 : (sgs.get! 6).toNat = 114 := rfl
  have e7 : (sgs.get! 7).toNat = 116 := rfl
  omega
def sgnE (s : ByteArray) (i : Nat) : Ending := .returned (.tuple #[.int .i32 (escR s i).1, .int .i64 (escR s i).2])
theorem sgnE_none (s : ByteArray) (i : Nat) (h : escR s i = (0, 0)) : sgnE s i = .returned (.tuple #[.int .i32 0, .int .i64 0]) := by unfold sgnE; rw [h]; rfl
theorem sgnE_some (s : ByteArray) (i r n : Nat) (z : Int) (h : escR s i = (r, n)) (hz : z = r) : sgnE s i = .returned (.tuple #[.int .i32 z, .int .i64 n]) := by unfold sgnE; rw [h, hz]
set_option maxHeartbeats 2000000 in
set_option maxRecDepth 100000 in
theorem sign_any (s : ByteArray) (hs : s.size ≤ 1048576) (i : Nat) (hi : i < s.size) (h92 : (s.get! i).toNat = 92) (w : World) : Calls Tryd.prog 26 #[.string s, .int .i64 i] w fun e w' => e = sgnE s i ∧ w = w' := by
  by_cases h2 : i + 2 ≤ s.size
  · have h2' : ¬ (s.size : Int) - 1 ≤ (i : Int) := by omega
    have hin : i + 1 < s.size := by omega
    have hg : (s.get! (i + 1)).toNat = s[i + 1].toNat := by rw [get_bang s (i + 1) hin]
    have HH := Lib.hid (fun k hk h => sg_hit s i k h2 hk h)
    have HG := Lib.hid hg
    have hc8 : s[i + 1].toNat < 256 := s[i + 1].toNat_lt
    clear hg
    go_enter Tryd.func26, Tryd.ntmps26
    go_wp2_with fail
    go_loop [9] (fun j => ∃ k : Nat, k ≤ 8 ∧ j = .int .i64 k ∧ NoSg s[i + 1].toNat k) (fun j => 8 - (intOf j).toNat)
    case atStart => exact ⟨0, by omega, rfl, fun j hj => by omega⟩
    case round =>
      obtain ⟨k, hk, rfl, hns⟩ := hrel
      have HNS := Lib.hid hns
      clear hns
      by_cases hlt : k < 8
      · by_cases hq : (sgs[k]'hlt).toNat = s[i + 1].toNat
        · have hx : escR s i = ((sts[k]'hlt).toNat, 2) := by
            have := HH.out k hlt (by rw [get_bang sgs k hlt, HG.out]; exact hq)
            rw [get_bang sts k hlt] at this; exact this
          have HX := Lib.hid (sgnE_some s i _ 2 ((sts[k]'hlt).toNat : Int) hx rfl)
          have hq' : ((({ data := #[34, 92, 47, 98, 102, 110, 114, 116] } : ByteArray)[k]'hlt).toNat : Int) == (s[i + 1].toNat : Int) := by
            have : (({ data := #[34, 92, 47, 98, 102, 110, 114, 116] } : ByteArray)[k]'hlt).toNat = s[i + 1].toNat := hq
            rw [this]; simp
          have hst : (({ data := #[34, 92, 47, 8, 12, 10, 13, 9] } : ByteArray)[k]'hlt).toNat < 256 := UInt8.toNat_lt _
          clear hq hx
          go_wp2_with fail
          go_ret2
          exact ⟨HX.out.symm, rfl⟩
        · have hq' : (((({ data := #[34, 92, 47, 98, 102, 110, 114, 116] } : ByteArray)[k]'hlt).toNat : Int) == (s[i + 1].toNat : Int)) = false := by
            have : ¬ (({ data := #[34, 92, 47, 98, 102, 110, 114, 116] } : ByteArray)[k]'hlt).toNat = s[i + 1].toNat := hq
            rw [beq_eq_false_iff_ne, ne_eq]; omega
          have HQ : Hid (NoSg s[i + 1].toNat (k + 1)) := fun j hj => by
            by_cases e : j = k
            · subst e; rw [get_bang sgs j hlt]; exact hq
            · exact HNS.out j (by omega)
          clear hq
          go_wp2_with fail
          exact ⟨⟨k + 1, by omega, by go_num, HQ.out⟩, by simp [intOf]; omega⟩
      · obtain rfl : k = 8 := by omega
        obtain ⟨n1, n2, n3, n4, n5, n6⟩ := noSg_all _ HNS.out
        have hr : escR s i = if s[i + 1].toNat = 117 then numR s i else (0, 0) := by
          unfold escR; rw [if_pos h2, HG.out, if_neg n1, if_neg n2, if_neg n3, if_neg n4, if_neg n5, if_neg n6]
        clear n1 n2 n3 n4 n5 n6
        by_cases c : s[i + 1].toNat = 117
        · have hnum : escR s i = numR s i := by rw [hr, if_pos c]
          have hU : isU s i = is4 s (i + 2) := by unfold isU; rw [h92, HG.out, c]; simp
          have k4 : ∀ W, Calls Tryd.prog 35 #[.string s, .int .i64 ((i : Int) + 2)] W fun e w' => e = .returned (.int .i64 (fourI s (i + 2))) ∧ W = w' := fun W => four_any s hs (i + 2) (by omega) W
          have K4 := Lib.hid k4
          have H92 := Lib.hid h92
          clear k4 hr
          cases hi4 : is4 s (i + 2)
          · have HN := Lib.hid (sgnE_none s i (by rw [hnum]; unfold numR; rw [hU, hi4]; exact if_neg (by decide)))
            have hF : fourI s (i + 2) = -1 := by unfold fourI; rw [hi4]; exact if_neg (by decide)
            rw [hF] at K4
            clear hnum hU hi4 hF h92
            go_wp2_with fail
            refine (K4.out _).mono ?_
            rintro e w' ⟨rfl, rfl⟩
            go_wp2_with fail
            go_ret2
            exact ⟨HN.out.symm, rfl⟩
          · have hv := v4_lt s (i + 2) hi4
            have hF : fourI s (i + 2) = (v4 s (i + 2) : Int) := by unfold fourI; rw [hi4]; exact if_pos rfl
            rw [hF] at K4
            have hn : escR s i = if v4 s (i + 2) < 55296 ∨ 57343 < v4 s (i + 2) then (v4 s (i + 2), 6) else if 56319 < v4 s (i + 2) then (0, 0) else if isU s (i + 6) then (if v4 s (i + 8) < 56320 ∨ 57343 < v4 s (i + 8) then (0, 0) else (65536 + (v4 s (i + 2) - 55296) * 1024 + (v4 s (i + 8) - 56320), 12)) else (0, 0) := by
              rw [hnum]; unfold numR; rw [hU, hi4]; exact if_pos rfl
            obtain ⟨z, hz⟩ : ∃ z : Int, z = (v4 s (i + 2) : Int) := ⟨_, rfl⟩
            rw [← hz] at K4
            have hz0 : 0 ≤ z := by omega
            have hz1 : z < 65536 := by omega
            clear hnum hU hF h92 hi4
            by_cases c1 : z < 55296
            · have HN := Lib.hid (sgnE_some s i (v4 s (i + 2)) 6 z (by rw [hn, if_pos (by omega)]) hz)
              clear hn hz hv
              go_wp2_with fail
              refine (K4.out _).mono ?_
              rintro e w' ⟨rfl, rfl⟩
              go_wp2_with fail
              go_ret2
              exact ⟨HN.out.symm, rfl⟩
            by_cases c2 : 57343 < z
            · have HN := Lib.hid (sgnE_some s i (v4 s (i + 2)) 6 z (by rw [hn, if_pos (by omega)]) hz)
              clear hn hz hv
              go_wp2_with fail
              refine (K4.out _).mono ?_
              rintro e w' ⟨rfl, rfl⟩
              go_wp2_with fail
              go_ret2
              exact ⟨HN.out.symm, rfl⟩
            by_cases c3 : 56319 < z
            · have HN := Lib.hid (sgnE_none s i (by rw [hn, if_neg (by omega), if_pos (by omega)]))
              clear hn hz hv
              go_wp2_with fail
              refine (K4.out _).mono ?_
              rintro e w' ⟨rfl, rfl⟩
              go_wp2_with fail
              go_ret2
              exact ⟨HN.out.symm, rfl⟩
            have hn2 : escR s i = if isU s (i + 6) then (if v4 s (i + 8) < 56320 ∨ 57343 < v4 s (i + 8) then (0, 0) else (65536 + (v4 s (i + 2) - 55296) * 1024 + (v4 s (i + 8) - 56320), 12)) else (0, 0) := by
              rw [hn, if_neg (by omega), if_neg (by omega)]
            clear hn
            by_cases c8 : i + 8 ≤ s.size
            · have c8' : ¬ (s.size : Int) - 7 ≤ (i : Int) := by omega
              have i6 : i + 6 < s.size := by omega
              have i7 : i + 7 < s.size := by omega
              have hU6 : isU s (i + 6) = (is4 s (i + 8) && (s[i + 6].toNat == 92) && (s[i + 7].toNat == 117)) := by
                show (is4 s (i + 8) && ((s.get! (i + 6)).toNat == 92) && ((s.get! (i + 7)).toNat == 117)) = _
                rw [get_bang s (i + 6) i6, get_bang s (i + 7) i7]
              by_cases e6 : s[i + 6].toNat = 92
              · by_cases e7 : s[i + 7].toNat = 117
                · have hU8 : isU s (i + 6) = is4 s (i + 8) := by rw [hU6, e6, e7]; simp
                  have k8 : ∀ W, Calls Tryd.prog 35 #[.string s, .int .i64 ((i : Int) + 8)] W fun e w' => e = .returned (.int .i64 (fourI s (i + 8))) ∧ W = w' := fun W => four_any s hs (i + 8) (by omega) W
                  have K8 := Lib.hid k8
                  clear k8 hU6
                  cases hi8 : is4 s (i + 8)
                  · have HN := Lib.hid (sgnE_none s i (by rw [hn2, hU8, hi8]; exact if_neg (by decide)))
                    have hF : fourI s (i + 8) = -1 := by unfold fourI; rw [hi8]; exact if_neg (by decide)
                    rw [hF] at K8
                    clear hn2 hz hv hF hi8 hU8
                    go_wp2_with fail
                    refine (K4.out _).mono ?_
                    rintro e w' ⟨rfl, rfl⟩
                    go_wp2_with fail
                    refine (K8.out _).mono ?_
                    rintro e w' ⟨rfl, rfl⟩
                    go_wp2_with fail
                    go_ret2
                    exact ⟨HN.out.symm, rfl⟩
                  · have hv8 := v4_lt s (i + 8) hi8
                    have hF : fourI s (i + 8) = (v4 s (i + 8) : Int) := by unfold fourI; rw [hi8]; exact if_pos rfl
                    rw [hF] at K8
                    have hn3 : escR s i = if v4 s (i + 8) < 56320 ∨ 57343 < v4 s (i + 8) then (0, 0) else (65536 + (v4 s (i + 2) - 55296) * 1024 + (v4 s (i + 8) - 56320), 12) := by
                      rw [hn2, hU8, hi8]; exact if_pos rfl
                    obtain ⟨y, hy⟩ : ∃ y : Int, y = (v4 s (i + 8) : Int) := ⟨_, rfl⟩
                    rw [← hy] at K8
                    have hy0 : 0 ≤ y := by omega
                    have hy1 : y < 65536 := by omega
                    clear hn2 hF hi8 hU8
                    by_cases d1 : y < 56320
                    · have HN := Lib.hid (sgnE_none s i (by rw [hn3, if_pos (by omega)]))
                      clear hn3 hz hv hy hv8
                      go_wp2_with fail
                      refine (K4.out _).mono ?_
                      rintro e w' ⟨rfl, rfl⟩
                      go_wp2_with fail
                      refine (K8.out _).mono ?_
                      rintro e w' ⟨rfl, rfl⟩
                      go_wp2_with fail
                      go_ret2
                      exact ⟨HN.out.symm, rfl⟩
                    by_cases d2 : 57343 < y
                    · have HN := Lib.hid (sgnE_none s i (by rw [hn3, if_pos (by omega)]))
                      clear hn3 hz hv hy hv8
                      go_wp2_with fail
                      refine (K4.out _).mono ?_
                      rintro e w' ⟨rfl, rfl⟩
                      go_wp2_with fail
                      refine (K8.out _).mono ?_
                      rintro e w' ⟨rfl, rfl⟩
                      go_wp2_with fail
                      go_ret2
                      exact ⟨HN.out.symm, rfl⟩
                    · have HN := Lib.hid (sgnE_some s i _ 12 (65536 + (z - 55296) * 1024 + y - 56320) (by rw [hn3, if_neg (by omega)]) (by omega))
                      clear hn3 hz hv hy hv8
                      go_wp2_with fail
                      refine (K4.out _).mono ?_
                      rintro e w' ⟨rfl, rfl⟩
                      go_wp2_with fail
                      refine (K8.out _).mono ?_
                      rintro e w' ⟨rfl, rfl⟩
                      go_wp2_with fail
                      go_ret2
                      exact ⟨HN.out.symm, rfl⟩
                · have HN := Lib.hid (sgnE_none s i (by rw [hn2, hU6, show (s[i + 7].toNat == 117) = false by simp [e7], Bool.and_false]; exact if_neg (by decide)))
                  have d7 : ((s[i + 7].toNat : Int) == 117) = false := by simp; omega
                  have f7 : ((s[i + 7].toNat : Int) != 117) = true := by simp; omega
                  have d6 : ((s[i + 6].toNat : Int) == 92) = true := by simp [e6]
                  have f6 : ((s[i + 6].toNat : Int) != 92) = false := by simp [e6]
                  clear hn2 hU6 hz hv e6 e7
                  go_wp2_with fail
                  refine (K4.out _).mono ?_
                  rintro e w' ⟨rfl, rfl⟩
                  go_wp2_with fail
                  go_ret2
                  exact ⟨HN.out.symm, rfl⟩
              · have HN := Lib.hid (sgnE_none s i (by rw [hn2, hU6, show (s[i + 6].toNat == 92) = false by simp [e6], Bool.and_false, Bool.false_and]; exact if_neg (by decide)))
                have d6 : ((s[i + 6].toNat : Int) == 92) = false := by simp; omega
                have f6 : ((s[i + 6].toNat : Int) != 92) = true := by simp; omega
                clear hn2 hU6 hz hv e6
                go_wp2_with fail
                refine (K4.out _).mono ?_
                rintro e w' ⟨rfl, rfl⟩
                go_wp2_with fail
                go_ret2
                exact ⟨HN.out.symm, rfl⟩
            · have c8' : (s.size : Int) - 7 ≤ (i : Int) := by omega
              have HN := Lib.hid (sgnE_none s i (by
                have : isU s (i + 6) = false := by
                  rw [Bool.eq_false_iff]; intro hh; exact c8 (by have := (isU_in s _ hh).1; omega)
                rw [hn2, this]; exact if_neg (by decide)))
              clear hn2 hz hv c8
              go_wp2_with fail
              refine (K4.out _).mono ?_
              rintro e w' ⟨rfl, rfl⟩
              go_wp2_with fail
              go_ret2
              exact ⟨HN.out.symm, rfl⟩
        · have HN := Lib.hid (sgnE_none s i (by rw [hr, if_neg c]))
          have d117 : ((s[i + 1].toNat : Int) == 117) = false := by simp; omega
          clear hr c h92
          go_wp2_with fail
          go_ret2
          exact ⟨HN.out.symm, rfl⟩
  · have h2' : (s.size : Int) - 1 ≤ (i : Int) := by omega
    have HN := Lib.hid (sgnE_none s i (by unfold escR; rw [if_neg h2]))
    clear h2
    go_enter Tryd.func26, Tryd.ntmps26
    go_wp2_with fail
    go_ret2
    exact ⟨HN.out.symm, rfl⟩
end Go.Proofs.YtmkenjelcmpghaaDoor
