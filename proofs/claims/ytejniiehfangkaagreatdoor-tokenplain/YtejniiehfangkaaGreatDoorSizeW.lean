import Derived.Test.YtejniiehfangkaaGreatDoorPlainC
import Derived.Test.YtejniiehfangkaaGreatDoorBase
import Derived.Deep.QuietTactic
import Derived.BigQuiet
set_option linter.unusedVariables false
set_option linter.unusedSimpArgs false
namespace Go.Proofs.YtejniiehfangkaaGreatDoor
open Go.RowKit
/-- What Size tells at i. -/
def sizeR (s : ByteArray) (i : Nat) : Nat × Nat := if badAt s i then (0, 0) else ((Utf8.decode s i).2, (Utf8.decode s i).1)
def sizeE (s : ByteArray) (i : Nat) : Ending := .returned (.tuple #[.int .i64 (sizeR s i).1, .int .i32 (sizeR s i).2])
theorem sizeE_bad (s : ByteArray) (i : Nat) (h : badAt s i = true) : sizeE s i = .returned (.tuple #[.int .i64 0, .int .i32 0]) := by unfold sizeE sizeR; rw [h]; rfl
theorem sizeE_ok (s : ByteArray) (i V m : Nat) (h : Utf8.decode s i = (V, m) ∧ badAt s i = false) : sizeE s i = .returned (.tuple #[.int .i64 m, .int .i32 V]) := by unfold sizeE sizeR; rw [h.2, h.1]; rfl
theorem val_int {k : IntKind} {a b : Int} (h : a = b) : Value.int k a = .int k b := by rw [h]
theorem conts_next {s : ByteArray} {i k : Nat} (h : Conts s i k) (h1 : 128 ≤ (s.get! (i + k)).toNat) (h2 : (s.get! (i + k)).toNat < 192) : Conts s i (k + 1) := by
  intro j a b
  by_cases e : j = k
  · subst e; exact ⟨h1, h2⟩
  · exact h j a (by omega)
set_option maxHeartbeats 1000000 in
set_option maxRecDepth 100000 in
theorem size_2 (s : ByteArray) (hs : s.size ≤ 4294967296) (i : Nat) (hi : i < s.size) (b : Nat) (hg : b = s[i].toNat) (hb1 : 194 ≤ b) (hb2 : b < 224) (w : World) : Calls Tryz.prog 41 #[.string s, .int .i64 i] w fun e w' => e = sizeE s i ∧ w = w' := by
  have hgb : (s.get! i).toNat = b := by rw [get_bang s i hi, hg]
  have hcl : Cls (s.get! i).toNat 2 192 128 := by rw [hgb]; unfold Cls; omega
  have HCL := Lib.hid hcl
  have HGB := Lib.hid hgb
  clear hcl hgb
  have hsb : s[i].toNat = b := hg.symm
  clear hg
  by_cases hm : i + 2 ≤ s.size
  · go_enter Tryz.func41, Tryz.ntmps41
    go_wp2
    go_loop [8, 10] (fun v j => ∃ k : Nat, 1 ≤ k ∧ k ≤ 2 ∧ j = .int .i64 k ∧ v = .int .i64 (vf s i (b - 192) k : Nat) ∧ Conts s i k) (fun _ j => 2 - (intOf j).toNat)
    case atStart => exact ⟨1, by omega, by omega, rfl, val_int (by rw [vf_one]; omega), fun j h1 h2 => by omega⟩
    case round =>
      obtain ⟨k, hk1, hk2, rfl, rfl, hc⟩ := hrel
      have HC := Lib.hid hc
      clear hc
      have hv := vf_small s i (b - 192) (by omega) k HC.out (by omega)
      by_cases hlt : k < 2
      · have hv3 := hv.2 (by omega)
        have hin : i + k < s.size := by omega
        have hgk : (s.get! (i + k)).toNat = s[i + k].toNat := get_bang s (i + k) hin ▸ rfl
        have HN := Lib.hid (vf_next s i (b - 192) k hk1)
        generalize hV : vf s i (b - 192) k = V at *
        have HV := Lib.hid hV
        have HGK := Lib.hid hgk
        clear hV hv hgk
        by_cases hd : 128 ≤ s[i + k].toNat ∧ s[i + k].toNat < 192
        · obtain ⟨hd1, hd2⟩ := hd
          go_wp2
          exact ⟨⟨k + 1, by omega, by omega, by go_num, val_int (by rw [HN.out, HGK.out]; omega), conts_next HC.out (by rw [HGK.out]; exact hd1) (by rw [HGK.out]; exact hd2)⟩, by simp [intOf]; omega⟩
        · have HB := Lib.hid (size_no s i 2 192 128 HCL.out (fun h => hd (by have := h.2.1 k hk1 hlt; rw [HGK.out] at this; exact this)))
          by_cases hd1 : 128 ≤ s[i + k].toNat
          · have hd2 : 192 ≤ s[i + k].toNat := by omega
            have hd3 : s[i + k].toNat < 256 := s[i + k].toNat_lt
            clear hd
            go_wp2
            go_ret2
            exact ⟨(sizeE_bad s i HB.out).symm, rfl⟩
          · clear hd
            go_wp2
            go_ret2
            exact ⟨(sizeE_bad s i HB.out).symm, rfl⟩
      · obtain rfl : k = 2 := by omega
        have hv4 := hv.1
        have hno : ¬ fits 128 (vf s i (b - 192) 2) → badAt s i = true := fun h => size_no s i 2 192 128 HCL.out (fun x => h (by have := x.2.2; rw [HGB.out] at this; exact this))
        have hyes : fits 128 (vf s i (b - 192) 2) → Utf8.decode s i = (vf s i (b - 192) 2, 2) ∧ badAt s i = false := fun h => by have := size_yes s i 2 192 128 HCL.out hm HC.out (by rw [HGB.out]; exact h); rw [HGB.out] at this; exact this
        generalize vf s i (b - 192) 2 = V at *
        have HNO := Lib.hid hno
        have HYES := Lib.hid hyes
        clear hv hno hyes
        by_cases f1 : V < 128
        · go_wp2
          go_ret2
          exact ⟨(sizeE_bad s i (HNO.out (fun h => by unfold fits at h; omega))).symm, rfl⟩
        · by_cases f2 : 1114111 < V
          · go_wp2
            go_ret2
            exact ⟨(sizeE_bad s i (HNO.out (fun h => by unfold fits at h; omega))).symm, rfl⟩
          · by_cases f3 : 55296 ≤ V
            · by_cases f4 : V < 57344
              · go_wp2
                go_ret2
                exact ⟨(sizeE_bad s i (HNO.out (fun h => by unfold fits at h; omega))).symm, rfl⟩
              · go_wp2
                go_ret2
                exact ⟨(sizeE_ok s i V 2 (HYES.out (by unfold fits; omega))).symm, rfl⟩
            · go_wp2
              go_ret2
              exact ⟨(sizeE_ok s i V 2 (HYES.out (by unfold fits; omega))).symm, rfl⟩
  · have HB := Lib.hid (size_no s i 2 192 128 HCL.out (fun h => hm h.1))
    go_enter Tryz.func41, Tryz.ntmps41
    go_wp2
    go_ret2
    exact ⟨(sizeE_bad s i HB.out).symm, rfl⟩
set_option maxHeartbeats 1000000 in
set_option maxRecDepth 100000 in
theorem size_3 (s : ByteArray) (hs : s.size ≤ 4294967296) (i : Nat) (hi : i < s.size) (b : Nat) (hg : b = s[i].toNat) (hb1 : 224 ≤ b) (hb2 : b < 240) (w : World) : Calls Tryz.prog 41 #[.string s, .int .i64 i] w fun e w' => e = sizeE s i ∧ w = w' := by
  have hgb : (s.get! i).toNat = b := by rw [get_bang s i hi, hg]
  have hcl : Cls (s.get! i).toNat 3 224 2048 := by rw [hgb]; unfold Cls; omega
  have HCL := Lib.hid hcl
  have HGB := Lib.hid hgb
  clear hcl hgb
  have hsb : s[i].toNat = b := hg.symm
  clear hg
  by_cases hm : i + 3 ≤ s.size
  · go_enter Tryz.func41, Tryz.ntmps41
    go_wp2
    go_loop [8, 10] (fun v j => ∃ k : Nat, 1 ≤ k ∧ k ≤ 3 ∧ j = .int .i64 k ∧ v = .int .i64 (vf s i (b - 224) k : Nat) ∧ Conts s i k) (fun _ j => 3 - (intOf j).toNat)
    case atStart => exact ⟨1, by omega, by omega, rfl, val_int (by rw [vf_one]; omega), fun j h1 h2 => by omega⟩
    case round =>
      obtain ⟨k, hk1, hk2, rfl, rfl, hc⟩ := hrel
      have HC := Lib.hid hc
      clear hc
      have hv := vf_small s i (b - 224) (by omega) k HC.out (by omega)
      by_cases hlt : k < 3
      · have hv3 := hv.2 (by omega)
        have hin : i + k < s.size := by omega
        have hgk : (s.get! (i + k)).toNat = s[i + k].toNat := get_bang s (i + k) hin ▸ rfl
        have HN := Lib.hid (vf_next s i (b - 224) k hk1)
        generalize hV : vf s i (b - 224) k = V at *
        have HV := Lib.hid hV
        have HGK := Lib.hid hgk
        clear hV hv hgk
        by_cases hd : 128 ≤ s[i + k].toNat ∧ s[i + k].toNat < 192
        · obtain ⟨hd1, hd2⟩ := hd
          go_wp2
          exact ⟨⟨k + 1, by omega, by omega, by go_num, val_int (by rw [HN.out, HGK.out]; omega), conts_next HC.out (by rw [HGK.out]; exact hd1) (by rw [HGK.out]; exact hd2)⟩, by simp [intOf]; omega⟩
        · have HB := Lib.hid (size_no s i 3 224 2048 HCL.out (fun h => hd (by have := h.2.1 k hk1 hlt; rw [HGK.out] at this; exact this)))
          by_cases hd1 : 128 ≤ s[i + k].toNat
          · have hd2 : 192 ≤ s[i + k].toNat := by omega
            have hd3 : s[i + k].toNat < 256 := s[i + k].toNat_lt
            clear hd
            go_wp2
            go_ret2
            exact ⟨(sizeE_bad s i HB.out).symm, rfl⟩
          · clear hd
            go_wp2
            go_ret2
            exact ⟨(sizeE_bad s i HB.out).symm, rfl⟩
      · obtain rfl : k = 3 := by omega
        have hv4 := hv.1
        have hno : ¬ fits 2048 (vf s i (b - 224) 3) → badAt s i = true := fun h => size_no s i 3 224 2048 HCL.out (fun x => h (by have := x.2.2; rw [HGB.out] at this; exact this))
        have hyes : fits 2048 (vf s i (b - 224) 3) → Utf8.decode s i = (vf s i (b - 224) 3, 3) ∧ badAt s i = false := fun h => by have := size_yes s i 3 224 2048 HCL.out hm HC.out (by rw [HGB.out]; exact h); rw [HGB.out] at this; exact this
        generalize vf s i (b - 224) 3 = V at *
        have HNO := Lib.hid hno
        have HYES := Lib.hid hyes
        clear hv hno hyes
        by_cases f1 : V < 2048
        · go_wp2
          go_ret2
          exact ⟨(sizeE_bad s i (HNO.out (fun h => by unfold fits at h; omega))).symm, rfl⟩
        · by_cases f2 : 1114111 < V
          · go_wp2
            go_ret2
            exact ⟨(sizeE_bad s i (HNO.out (fun h => by unfold fits at h; omega))).symm, rfl⟩
          · by_cases f3 : 55296 ≤ V
            · by_cases f4 : V < 57344
              · go_wp2
                go_ret2
                exact ⟨(sizeE_bad s i (HNO.out (fun h => by unfold fits at h; omega))).symm, rfl⟩
              · go_wp2
                go_ret2
                exact ⟨(sizeE_ok s i V 3 (HYES.out (by unfold fits; omega))).symm, rfl⟩
            · go_wp2
              go_ret2
              exact ⟨(sizeE_ok s i V 3 (HYES.out (by unfold fits; omega))).symm, rfl⟩
  · have HB := Lib.hid (size_no s i 3 224 2048 HCL.out (fun h => hm h.1))
    go_enter Tryz.func41, Tryz.ntmps41
    go_wp2
    go_ret2
    exact ⟨(sizeE_bad s i HB.out).symm, rfl⟩
set_option maxHeartbeats 1000000 in
set_option maxRecDepth 100000 in
theorem size_4 (s : ByteArray) (hs : s.size ≤ 4294967296) (i : Nat) (hi : i < s.size) (b : Nat) (hg : b = s[i].toNat) (hb1 : 240 ≤ b) (hb2 : b < 245) (w : World) : Calls Tryz.prog 41 #[.string s, .int .i64 i] w fun e w' => e = sizeE s i ∧ w = w' := by
  have hgb : (s.get! i).toNat = b := by rw [get_bang s i hi, hg]
  have hcl : Cls (s.get! i).toNat 4 240 65536 := by rw [hgb]; unfold Cls; omega
  have HCL := Lib.hid hcl
  have HGB := Lib.hid hgb
  clear hcl hgb
  have hsb : s[i].toNat = b := hg.symm
  clear hg
  have d1 : decide ((b : Int) < 128) = false := by simp; omega
  have d2 : decide ((194 : Int) ≤ b) = true := by simp; omega
  have d3 : decide ((b : Int) < 224) = false := by simp; omega
  have d4 : decide ((224 : Int) ≤ b) = true := by simp; omega
  have d5 : decide ((b : Int) < 240) = false := by simp; omega
  have d6 : decide ((240 : Int) ≤ b) = true := by simp; omega
  have d7 : decide ((b : Int) < 245) = true := by simp; omega
  by_cases hm : i + 4 ≤ s.size
  · go_enter Tryz.func41, Tryz.ntmps41
    go_wp2
    go_loop [8, 10] (fun v j => ∃ k : Nat, 1 ≤ k ∧ k ≤ 4 ∧ j = .int .i64 k ∧ v = .int .i64 (vf s i (b - 240) k : Nat) ∧ Conts s i k) (fun _ j => 4 - (intOf j).toNat)
    case atStart => exact ⟨1, by omega, by omega, rfl, val_int (by rw [vf_one]; omega), fun j h1 h2 => by omega⟩
    case round =>
      obtain ⟨k, hk1, hk2, rfl, rfl, hc⟩ := hrel
      have HC := Lib.hid hc
      clear hc
      have hv := vf_small s i (b - 240) (by omega) k HC.out (by omega)
      by_cases hlt : k < 4
      · have hv3 := hv.2 (by omega)
        have hin : i + k < s.size := by omega
        have hgk : (s.get! (i + k)).toNat = s[i + k].toNat := get_bang s (i + k) hin ▸ rfl
        have HN := Lib.hid (vf_next s i (b - 240) k hk1)
        generalize hV : vf s i (b - 240) k = V at *
        have HV := Lib.hid hV
        have HGK := Lib.hid hgk
        clear hV hv hgk
        by_cases hd : 128 ≤ s[i + k].toNat ∧ s[i + k].toNat < 192
        · obtain ⟨hd1, hd2⟩ := hd
          go_wp2
          exact ⟨⟨k + 1, by omega, by omega, by go_num, val_int (by rw [HN.out, HGK.out]; omega), conts_next HC.out (by rw [HGK.out]; exact hd1) (by rw [HGK.out]; exact hd2)⟩, by simp [intOf]; omega⟩
        · have HB := Lib.hid (size_no s i 4 240 65536 HCL.out (fun h => hd (by have := h.2.1 k hk1 hlt; rw [HGK.out] at this; exact this)))
          by_cases hd1 : 128 ≤ s[i + k].toNat
          · have hd2 : 192 ≤ s[i + k].toNat := by omega
            have hd3 : s[i + k].toNat < 256 := s[i + k].toNat_lt
            clear hd
            go_wp2
            go_ret2
            exact ⟨(sizeE_bad s i HB.out).symm, rfl⟩
          · clear hd
            go_wp2
            go_ret2
            exact ⟨(sizeE_bad s i HB.out).symm, rfl⟩
      · obtain rfl : k = 4 := by omega
        have hv4 := hv.1
        have hno : ¬ fits 65536 (vf s i (b - 240) 4) → badAt s i = true := fun h => size_no s i 4 240 65536 HCL.out (fun x => h (by have := x.2.2; rw [HGB.out] at this; exact this))
        have hyes : fits 65536 (vf s i (b - 240) 4) → Utf8.decode s i = (vf s i (b - 240) 4, 4) ∧ badAt s i = false := fun h => by have := size_yes s i 4 240 65536 HCL.out hm HC.out (by rw [HGB.out]; exact h); rw [HGB.out] at this; exact this
        generalize vf s i (b - 240) 4 = V at *
        have HNO := Lib.hid hno
        have HYES := Lib.hid hyes
        clear hv hno hyes
        by_cases f1 : V < 65536
        · go_wp2
          go_ret2
          exact ⟨(sizeE_bad s i (HNO.out (fun h => by unfold fits at h; omega))).symm, rfl⟩
        · by_cases f2 : 1114111 < V
          · go_wp2
            go_ret2
            exact ⟨(sizeE_bad s i (HNO.out (fun h => by unfold fits at h; omega))).symm, rfl⟩
          · have f3 : 55296 ≤ V := by omega
            have f4 : ¬ V < 57344 := by omega
            go_wp2
            go_ret2
            exact ⟨(sizeE_ok s i V 4 (HYES.out (by unfold fits; omega))).symm, rfl⟩
  · have HB := Lib.hid (size_no s i 4 240 65536 HCL.out (fun h => hm h.1))
    go_enter Tryz.func41, Tryz.ntmps41
    go_wp2
    go_ret2
    exact ⟨(sizeE_bad s i HB.out).symm, rfl⟩
set_option maxHeartbeats 400000 in
set_option maxRecDepth 100000 in
theorem size_0 (s : ByteArray) (hs : s.size ≤ 4294967296) (i : Nat) (hi : i < s.size) (b : Nat) (hg : b = s[i].toNat) (hb : 128 ≤ b ∧ b < 194 ∨ 245 ≤ b) (w : World) : Calls Tryz.prog 41 #[.string s, .int .i64 i] w fun e w' => e = sizeE s i ∧ w = w' := by
  have HB := Lib.hid (size_none s i hi (by rw [get_bang s i hi, ← hg]; exact hb))
  have hsb : s[i].toNat = b := hg.symm
  have hlt : b < 256 := by rw [hg]; exact s[i].toNat_lt
  clear hg
  rcases hb with ⟨h1, h2⟩ | h1
  · go_enter Tryz.func41, Tryz.ntmps41
    go_wp2
    go_ret2
    exact ⟨(sizeE_bad s i HB.out).symm, rfl⟩
  · go_enter Tryz.func41, Tryz.ntmps41
    go_wp2
    go_ret2
    exact ⟨(sizeE_bad s i HB.out).symm, rfl⟩
set_option maxRecDepth 100000 in
theorem size_1 (s : ByteArray) (hs : s.size ≤ 4294967296) (i : Nat) (hi : i < s.size) (b : Nat) (hg : b = s[i].toNat) (hb : b < 128) (w : World) : Calls Tryz.prog 41 #[.string s, .int .i64 i] w fun e w' => e = sizeE s i ∧ w = w' := by
  have h1 := size_one s i hi (by rw [get_bang s i hi, ← hg]; exact hb)
  rw [get_bang s i hi, ← hg] at h1
  have HB := Lib.hid h1
  have hsb : s[i].toNat = b := hg.symm
  clear hg h1
  go_enter Tryz.func41, Tryz.ntmps41
  go_wp2
  go_ret2
  exact ⟨(sizeE_ok s i b 1 HB.out).symm, rfl⟩
theorem size_any (s : ByteArray) (hs : s.size ≤ 4294967296) (i : Nat) (hi : i < s.size) (w : World) : Calls Tryz.prog 41 #[.string s, .int .i64 i] w fun e w' => e = sizeE s i ∧ w = w' := by
  by_cases h1 : s[i].toNat < 128
  · exact size_1 s hs i hi _ rfl h1 w
  · by_cases h2 : s[i].toNat < 194
    · exact size_0 s hs i hi _ rfl (.inl ⟨by omega, h2⟩) w
    · by_cases h3 : s[i].toNat < 224
      · exact size_2 s hs i hi _ rfl (by omega) h3 w
      · by_cases h4 : s[i].toNat < 240
        · exact size_3 s hs i hi _ rfl (by omega) h4 w
        · by_cases h5 : s[i].toNat < 245
          · exact size_4 s hs i hi _ rfl (by omega) h5 w
          · exact size_0 s hs i hi _ rfl (.inr (by omega)) w
end Go.Proofs.YtejniiehfangkaaGreatDoor
