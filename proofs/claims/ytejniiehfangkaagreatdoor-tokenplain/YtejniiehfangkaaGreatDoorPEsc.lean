/- escaped, and noRuneAt. -/
import Derived.Test.YtejniiehfangkaaGreatDoorPNumB
set_option linter.unusedVariables false
set_option linter.unusedSimpArgs false
namespace Go.Proofs.YtejniiehfangkaaGreatDoor
open Go.RowKit
def escE (s : ByteArray) : Ending := .returned (.tuple #[.int .i32 (escR s 0).1, .int .i64 (escR s 0).2])
theorem escE_none (s : ByteArray) (h : escR s 0 = (0, 0)) : escE s = .returned (.tuple #[.int .i32 0, .int .i64 0]) := by unfold escE; rw [h]; rfl
theorem escE_some (s : ByteArray) (r n : Nat) (z : Int) (h : escR s 0 = (r, n)) (hz : z = r) : escE s = .returned (.tuple #[.int .i32 z, .int .i64 n]) := by unfold escE; rw [h, hz]
set_option maxHeartbeats 1000000 in
theorem escaped_any (s : ByteArray) (hs : s.size ≤ 1048576) (w : World) (hE : ErrV w) : Calls Tryz.prog 63 #[.string s] w fun e w' => e = escE s ∧ Below w.heap.size w w' := by
  by_cases h2 : s.size < 2
  · have HN := Lib.hid (escE_none s (by unfold escR; rw [if_neg (by omega)]))
    go_enter Tryz.func63, Tryz.ntmps63
    go_wp2_with fail
    go_ret2
    exact ⟨HN.out.symm, Below.refl _ _⟩
  · have h2' : ¬ (s.size : Int) < 2 := by omega
    have h1 : 1 < s.size := by omega
    have hr : escR s 0 = if (s.get! 1).toNat = 34 ∨ (s.get! 1).toNat = 92 ∨ (s.get! 1).toNat = 47 then ((s.get! 1).toNat, 2) else if (s.get! 1).toNat = 98 then (8, 2) else if (s.get! 1).toNat = 102 then (12, 2) else if (s.get! 1).toNat = 110 then (10, 2) else if (s.get! 1).toNat = 114 then (13, 2) else if (s.get! 1).toNat = 116 then (9, 2) else if (s.get! 1).toNat = 117 then numR s 0 else (0, 0) := by
      unfold escR; rw [if_pos (by omega)]
    rw [get_bang s 1 h1] at hr
    have HNE := Lib.hid (numbered_any s hs w hE)
    have hc8 : s[1].toNat < 256 := s[1].toNat_lt
    clear h2 hE
    by_cases c34 : s[1].toNat = 34
    · have HN := Lib.hid (escE_some s 34 2 34 (by rw [hr, if_pos (by omega), c34]) rfl)
      clear hr HNE
      go_enter Tryz.func63, Tryz.ntmps63
      go_wp2_with fail
      go_ret2
      exact ⟨HN.out.symm, Below.refl _ _⟩
    have d34 : ((s[1].toNat : Int) == 34) = false := by simp; omega
    by_cases c92 : s[1].toNat = 92
    · have HN := Lib.hid (escE_some s 92 2 92 (by rw [hr, if_pos (by omega), c92]) rfl)
      clear hr HNE
      go_enter Tryz.func63, Tryz.ntmps63
      go_wp2_with fail
      go_ret2
      exact ⟨HN.out.symm, Below.refl _ _⟩
    have d92 : ((s[1].toNat : Int) == 92) = false := by simp; omega
    by_cases c47 : s[1].toNat = 47
    · have HN := Lib.hid (escE_some s 47 2 47 (by rw [hr, if_pos (by omega), c47]) rfl)
      clear hr HNE
      go_enter Tryz.func63, Tryz.ntmps63
      go_wp2_with fail
      go_ret2
      exact ⟨HN.out.symm, Below.refl _ _⟩
    have d47 : ((s[1].toNat : Int) == 47) = false := by simp; omega
    by_cases c98 : s[1].toNat = 98
    · have HN := Lib.hid (escE_some s 8 2 8 (by rw [hr, if_neg (by omega), if_pos c98]) rfl)
      clear hr HNE
      go_enter Tryz.func63, Tryz.ntmps63
      go_wp2_with fail
      go_ret2
      exact ⟨HN.out.symm, Below.refl _ _⟩
    have d98 : ((s[1].toNat : Int) == 98) = false := by simp; omega
    by_cases c102 : s[1].toNat = 102
    · have HN := Lib.hid (escE_some s 12 2 12 (by rw [hr, if_neg (by omega), if_neg (by omega), if_pos c102]) rfl)
      clear hr HNE
      go_enter Tryz.func63, Tryz.ntmps63
      go_wp2_with fail
      go_ret2
      exact ⟨HN.out.symm, Below.refl _ _⟩
    have d102 : ((s[1].toNat : Int) == 102) = false := by simp; omega
    by_cases c110 : s[1].toNat = 110
    · have HN := Lib.hid (escE_some s 10 2 10 (by rw [hr, if_neg (by omega), if_neg (by omega), if_neg (by omega), if_pos c110]) rfl)
      clear hr HNE
      go_enter Tryz.func63, Tryz.ntmps63
      go_wp2_with fail
      go_ret2
      exact ⟨HN.out.symm, Below.refl _ _⟩
    have d110 : ((s[1].toNat : Int) == 110) = false := by simp; omega
    by_cases c114 : s[1].toNat = 114
    · have HN := Lib.hid (escE_some s 13 2 13 (by rw [hr, if_neg (by omega), if_neg (by omega), if_neg (by omega), if_neg (by omega), if_pos c114]) rfl)
      clear hr HNE
      go_enter Tryz.func63, Tryz.ntmps63
      go_wp2_with fail
      go_ret2
      exact ⟨HN.out.symm, Below.refl _ _⟩
    have d114 : ((s[1].toNat : Int) == 114) = false := by simp; omega
    by_cases c116 : s[1].toNat = 116
    · have HN := Lib.hid (escE_some s 9 2 9 (by rw [hr, if_neg (by omega), if_neg (by omega), if_neg (by omega), if_neg (by omega), if_neg (by omega), if_pos c116]) rfl)
      clear hr HNE
      go_enter Tryz.func63, Tryz.ntmps63
      go_wp2_with fail
      go_ret2
      exact ⟨HN.out.symm, Below.refl _ _⟩
    have d116 : ((s[1].toNat : Int) == 116) = false := by simp; omega
    by_cases c117 : s[1].toNat = 117
    · have HN : Hid (escE s = numE s) := by
        have e : escR s 0 = numR s 0 := by rw [hr, if_neg (by omega), if_neg (by omega), if_neg (by omega), if_neg (by omega), if_neg (by omega), if_neg (by omega), if_pos c117]
        unfold escE numE; rw [e]; exact Lib.hid rfl
      clear hr c34 c92 c47 c98 c102 c110 c114 c116 d34 d92 d47 d98 d102 d110 d114 d116
      unfold numE at HN HNE
      generalize numR s 0 = P at *
      go_enter Tryz.func63, Tryz.ntmps63
      go_wp2_with fail
      refine HNE.out.mono ?_
      rintro e w1 ⟨rfl, hb1⟩
      go_wp2_with fail
      go_ret2
      exact ⟨HN.out.symm, hb1⟩
    have d117 : ((s[1].toNat : Int) == 117) = false := by simp; omega
    have HN := Lib.hid (escE_none s (by rw [hr, if_neg (by omega), if_neg (by omega), if_neg (by omega), if_neg (by omega), if_neg (by omega), if_neg (by omega), if_neg c117]))
    clear hr HNE c34 c92 c47 c98 c102 c110 c114 c116 c117
    go_enter Tryz.func63, Tryz.ntmps63
    go_wp2_with fail
    go_ret2
    exact ⟨HN.out.symm, Below.refl _ _⟩
/-- What stands behind a sign 5c at i, of the bytes from i on. -/
theorem esc_ext (s : ByteArray) (i : Nat) (h : i < s.size) : escR (s.extract i s.size) 0 = escR s i := by
  have hz : (s.extract i s.size).size = s.size - i := by rw [ByteArray.size_extract]; omega
  have hu := ext_isU s i 0 (by omega)
  have hu6 := ext_isU s i 6 (by omega)
  simp only [Nat.add_zero, Nat.zero_add] at hu
  have hn : numR (s.extract i s.size) 0 = numR s i := by
    unfold numR
    simp only [Nat.zero_add]
    rw [hu.1, hu6.1]
    by_cases a : isU s i = true
    · rw [if_pos a, if_pos a, hu.2 a]
      by_cases b : isU s (i + 6) = true
      · rw [if_pos b, if_pos b, hu6.2 b]
      · rw [if_neg b, if_neg b]
    · rw [if_neg a, if_neg a]
  unfold escR
  rw [hn, hz]
  by_cases h2 : i + 2 ≤ s.size
  · rw [if_pos (by omega), if_pos h2, ext_get s i s.size (0 + 1) (by omega) (Nat.le_refl _), Nat.zero_add]
  · rw [if_neg (by omega), if_neg h2]
/-! ### what is no rune, by three bytes -/
set_option maxRecDepth 100000 in
set_option maxHeartbeats 4000000 in
theorem dec_cut (n b0 b1 b2 b3 c3 : Nat) (hn : 1 ≤ n) (h0 : b0 < 256) (h1 : b1 < 256) (h2 : b2 < 256) (h3 : b3 < 256) (hc : c3 < 256) (h : Lib.decodeN n b0 b1 b2 b3 = (65533, 1)) : Lib.decodeN (min n 3) b0 b1 b2 c3 = (65533, 1) := by
  by_cases hlt : b0 < 128
  · exfalso
    revert h
    unfold Lib.decodeN
    repeat' split
    all_goals (intro h; have h1 := congrArg Prod.fst h; dsimp only at h1; omega)
  · by_cases ha : b0 < 194 ∨ 245 ≤ b0
    · exact decN_none _ _ _ _ _ (by omega) h0 h1 h2 hc (by omega)
    · by_cases hb : b0 < 224
      · rw [decN_two _ _ _ _ _ h0 h1 h2 h3 ⟨by omega, hb⟩] at h
        rw [decN_two _ _ _ _ _ h0 h1 h2 hc ⟨by omega, hb⟩]
        split at h
        · simp at h
        · rename_i hx; rw [if_neg (by omega)]
      · by_cases hd : b0 < 240
        · rw [decN_three _ _ _ _ _ h0 h1 h2 h3 ⟨by omega, hd⟩] at h
          rw [decN_three _ _ _ _ _ h0 h1 h2 hc ⟨by omega, hd⟩]
          split at h
          · simp at h
          · rename_i hx; rw [if_neg (by omega)]
        · rw [decN_four _ _ _ _ _ h0 h1 h2 hc ⟨by omega, by omega⟩, if_neg (by omega)]
theorem get_out (s : ByteArray) (i : Nat) (h : ¬ i < s.size) : s.get! i = 0 := by
  have h' : s.data.size ≤ i := Nat.le_of_not_lt h
  show s.data[i]! = 0
  rw [Array.getElem!_eq_getD, Array.getD, dif_neg (by omega)]
  rfl
theorem ext3_get (s : ByteArray) (i k : Nat) (hk : k < 3) : (s.extract i (min (i + 3) s.size)).get! k = s.get! (i + k) := by
  by_cases h : i + k < s.size
  · exact ext_get s i _ k (by omega) (by omega)
  · rw [get_out s (i + k) h, get_out _ k (by rw [ByteArray.size_extract]; omega)]
/-- Where fffd is read, three bytes tell whether it stands there. -/
theorem cut_bad (s : ByteArray) (i : Nat) (h : i < s.size) (hr : (Utf8.decode s i).1 = 65533) : (badI (s.extract i (min (i + 3) s.size)) == 0) = badAt s i := by
  have hz : (s.extract i (min (i + 3) s.size)).size = min (s.size - i) 3 := by rw [ByteArray.size_extract]; omega
  have g : ∀ k, k < 3 → (s.extract i (min (i + 3) s.size)).get! k = s.get! (i + k) := fun k hk => ext3_get s i k hk
  generalize hT : s.extract i (min (i + 3) s.size) = t at *
  have hp : 0 < t.size := by omega
  have hdt : Utf8.decode t 0 = Lib.decodeN (min (s.size - i) 3) (s.get! i).toNat (s.get! (i + 1)).toNat (s.get! (i + 2)).toNat (t.get! 3).toNat := by
    rw [Lib.decode_at, Nat.sub_zero, hz, Nat.zero_add, Nat.zero_add, Nat.zero_add, g 0 (by omega), g 1 (by omega), g 2 (by omega)]
    rfl
  cases hb : badAt s i
  · have hrep : repAt s i = true := by have := badAt_rep s i hr; rw [hb] at this; simpa using this
    obtain ⟨r1, r2, r3, r4⟩ := (repAt_iff s i).1 hrep
    have e : Utf8.decode t 0 = (65533, 3) := by
      rw [hdt, r2, r3, r4, decN_three _ _ _ _ _ (by omega) (by omega) (by omega) (get_lt t 3) (by omega), if_pos (by omega)]
    have hbt : badAt t 0 = false := by unfold badAt; rw [e]; rfl
    have : badI t = -1 := by
      unfold badI
      rw [badF, if_pos hp, hbt, e]
      simp only [Bool.false_eq_true, if_false]
      exact badF_end t _ _ (by omega)
    rw [this]; rfl
  · have e1 : Lib.decodeN (s.size - i) (s.get! i).toNat (s.get! (i + 1)).toNat (s.get! (i + 2)).toNat (s.get! (i + 3)).toNat = (65533, 1) := by
      rw [← Lib.decode_at]; exact (bad_iff s i).1 hb
    have e : Utf8.decode t 0 = (65533, 1) := by
      rw [hdt]; exact dec_cut _ _ _ _ _ _ (by omega) (get_lt s _) (get_lt s _) (get_lt s _) (get_lt s _) (get_lt t 3) e1
    have : badI t = 0 := badF_hit t _ 0 hp (by omega) ((bad_iff t 0).2 e)
    rw [this]; rfl
set_option maxHeartbeats 1000000 in
theorem noRune_any (s : ByteArray) (hs : s.size ≤ 1048576) (i : Nat) (hi : i < s.size) (hr : (Utf8.decode s i).1 = 65533) (w : World) : Calls Tryz.prog 65 #[.string s, .int .i64 i] w fun e w' => e = .returned (.bool (badAt s i)) ∧ Below w.heap.size w w' := by
  have HC := Lib.hid (cut_bad s i hi hr)
  clear hr
  go_enter Tryz.func65, Tryz.ntmps65
  go_wp2_with fail
  rw [show (min ((i : Int) + 3) (s.size : Int)).toNat = min (i + 3) s.size by omega]
  refine (bad_any _ (by rw [ByteArray.size_extract]; unfold maxLen; omega) _).mono ?_
  rintro e w1 ⟨rfl, hb1⟩
  go_wp2_with fail
  go_ret
  exact ⟨ret_bool HC.out, hb1⟩
end Go.Proofs.YtejniiehfangkaaGreatDoor
