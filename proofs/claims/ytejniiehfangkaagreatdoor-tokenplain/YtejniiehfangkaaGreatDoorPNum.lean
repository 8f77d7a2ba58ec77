/- strconv.ParseUint at base 16, of four bytes. -/
import Derived.Test.YtejniiehfangkaaGreatDoorQWalk
import Derived.Lib.ConvBytes
import Derived.Lib.AtoiErrMem
set_option linter.unusedVariables false
set_option linter.unusedSimpArgs false
namespace Go.Proofs.YtejniiehfangkaaGreatDoor
open Go.RowKit
def lowN (c : Nat) : Nat := c ||| 32
set_option maxRecDepth 100000 in
theorem low_all : ∀ c : Fin 256, bits BinOp.or IntKind.u8 (c.val : Int) 32 = ((lowN c.val : Nat) : Int) ∧ lowN c.val < 256 ∧ (¬ (48 ≤ c.val ∧ c.val ≤ 57) → ((97 ≤ lowN c.val ∧ lowN c.val ≤ 102 → dg c.val = lowN c.val - 87) ∧ (¬ (97 ≤ lowN c.val ∧ lowN c.val ≤ 102) → dg c.val = 16))) := by decide +kernel
theorem low_at (c : Nat) (h : c < 256) : bits BinOp.or IntKind.u8 (c : Int) 32 = ((lowN c : Nat) : Int) ∧ lowN c < 256 ∧ (¬ (48 ≤ c ∧ c ≤ 57) → ((97 ≤ lowN c ∧ lowN c ≤ 102 → dg c = lowN c - 87) ∧ (¬ (97 ≤ lowN c ∧ lowN c ≤ 102) → dg c = 16))) := low_all ⟨c, h⟩
theorem lower_z (z y : Int) (hy : bits BinOp.or IntKind.u8 z 32 = y) (w : World) : Calls Tryz.prog 104 #[.int .u8 z] w fun e w' => e = .returned (.int .u8 y) ∧ w = w' := by
  go_enter Tryz.func104, Tryz.ntmps104
  go_wp2
  go_ret
  exact ⟨rfl, rfl⟩
theorem lower_any (c : Nat) (h : c < 256) (w : World) : Calls Tryz.prog 104 #[.int .u8 c] w fun e w' => e = .returned (.int .u8 (lowN c)) ∧ w = w' := by
  have hb := (low_at c h).1
  go_enter Tryz.func104, Tryz.ntmps104
  go_wp2
  go_ret
  exact ⟨rfl, rfl⟩
/-- The number of the first k digits. -/
def vk (t : ByteArray) : Nat → Nat
  | 0 => 0
  | k + 1 => vk t k * 16 + dg (t.get! k).toNat
def Digs (t : ByteArray) (k : Nat) : Prop := ∀ j, j < k → dg (t.get! j).toNat < 16
theorem vk_bd (t : ByteArray) (k : Nat) (h : Digs t k) (hk : k ≤ 4) : vk t k ≤ 65535 ∧ (k < 4 → vk t k ≤ 4095) := by
  match k, hk with
  | 0, _ => simp [vk]
  | 1, _ => have := h 0 (by omega); simp [vk]; omega
  | 2, _ => have := h 0 (by omega); have := h 1 (by omega); simp [vk]; omega
  | 3, _ => have := h 0 (by omega); have := h 1 (by omega); have := h 2 (by omega); simp [vk]; omega
  | 4, _ => have := h 0 (by omega); have := h 1 (by omega); have := h 2 (by omega); have := h 3 (by omega); simp [vk]; omega
theorem digs_next {t : ByteArray} {k : Nat} (h : Digs t k) (hk : dg (t.get! k).toNat < 16) : Digs t (k + 1) := by
  intro j hj
  by_cases e : j = k
  · subst e; exact hk
  · exact h j (by omega)
def parsE (t : ByteArray) : Ending := if is4 t 0 then .returned (.tuple #[.int .u64 (v4 t 0), .nilIface]) else .returned (.tuple #[.int .u64 0, .iface 102 (.int .i64 2)])
theorem parsE_no (t : ByteArray) (k : Nat) (hk : k < 4) (h : dg (t.get! k).toNat = 16) : parsE t = .returned (.tuple #[.int .u64 0, .iface 102 (.int .i64 2)]) := by
  unfold parsE
  rw [if_neg]
  simp only [is4, g4, Nat.zero_add, Bool.and_eq_true, decide_eq_true_eq]
  obtain rfl | rfl | rfl | rfl : k = 0 ∨ k = 1 ∨ k = 2 ∨ k = 3 := by omega
  all_goals omega
theorem parsE_yes (t : ByteArray) (hz : 4 ≤ t.size) (h : Digs t 4) : parsE t = .returned (.tuple #[.int .u64 (vk t 4), .nilIface]) := by
  unfold parsE
  rw [if_pos]
  · rw [show v4 t 0 = vk t 4 by simp [v4, vk, g4]]
  · simp only [is4, g4, Nat.zero_add, Bool.and_eq_true, decide_eq_true_eq]
    exact ⟨hz, ⟨⟨h 0 (by omega), h 1 (by omega)⟩, h 2 (by omega)⟩, h 3 (by omega)⟩
set_option maxHeartbeats 2000000 in
set_option maxRecDepth 100000 in
theorem parse_in (t : ByteArray) (ht1 : t.size ≤ 4) (ht2 : 4 ≤ t.size) (w : World) : Calls Tryz.prog 90 #[.string t, .int .i64 16, .int .i64 16] w fun e w' => e = parsE t ∧ Below w.heap.size w w' := by
  have hcv := Lib.run_convert_string_bytes (P := Tryz.prog) w 9 34 5 t Tryz.underlying9 Tryz.underlying34 Tryz.underlying5
  have hbel := Lib.bytesWorld_below w 5 t
  have hcell : ∀ j (hj : j < t.size), (Lib.bytesWorld w 5 t).cell? ⟨w.heap.size, j, none⟩ = some (.int .u8 (t[j]'hj).toNat) := fun j hj => by
    have := Lib.bytesWorld_cell w 5 t j hj
    rw [this]
    congr 2
    rw [List.getD_eq_getElem?_getD, List.getElem?_eq_getElem (by rw [← Lib.size_eq]; exact hj)]
    rfl
  generalize Lib.bytesWorld w 5 t = W1 at *
  generalize grownCap w t.size 0 5 = C at *
  rw [show t.size = 4 by omega] at hcv
  have HB := Lib.hid hbel
  have HC := Lib.hid hcell
  clear hbel hcell
  have hne : t.toList.isEmpty = false := by
    rw [Lib.toList_data]
    cases h : t.data.toList
    · have e := Lib.size_eq t; rw [h] at e; simp only [List.length_nil] at e; omega
    · rfl
  go_enter Tryz.func90, Tryz.ntmps90
  go_wp2_with fail
  clear hcv hne
  go_loop [12, 13, 101] (fun o n i => ∃ k : Nat, k ≤ 4 ∧ i = .int .i64 k ∧ o = .bool false ∧ n = .int .u64 (vk t k) ∧ Digs t k) (fun _ _ i => 4 - (intOf i).toNat)
  case atStart => exact ⟨0, by omega, rfl, rfl, rfl, fun j hj => by omega⟩
  case round =>
    obtain ⟨k, hk, rfl, rfl, rfl, hd⟩ := hrel
    have HD := Lib.hid hd
    obtain ⟨hv, hv4⟩ := vk_bd t k hd hk
    clear hd
    by_cases hlt : k < 4
    · have hv3 := hv4 hlt
      have hin : k < t.size := by omega
      obtain ⟨z, hz⟩ : ∃ z : Int, z = (t[k].toNat : Int) := ⟨_, rfl⟩
      obtain ⟨y, hy⟩ : ∃ y : Int, y = (lowN t[k].toNat : Int) := ⟨_, rfl⟩
      have hcell := HC.out k hin
      rw [← hz] at hcell
      have hc8 : t[k].toNat < 256 := t[k].toNat_lt
      obtain ⟨hbo, hL, hdg⟩ := low_at t[k].toNat hc8
      rw [← hz, ← hy] at hbo
      have HLC := Lib.hid (fun W => lower_z z y hbo W)
      have HZ : Hid (∀ d : Nat, dg t[k].toNat = d → d < 16 → vk t (k + 1) = vk t k * 16 + d ∧ Digs t (k + 1)) := fun d hd hd16 => by
        have e1 : vk t (k + 1) = vk t k * 16 + dg (t.get! k).toNat := rfl
        have e2 : (t.get! k).toNat = t[k].toNat := by rw [get_bang t k hin]
        rw [e2, hd] at e1
        exact ⟨e1, digs_next HD.out (by rw [e2, hd]; exact hd16)⟩
      have HN : Hid (dg t[k].toNat = 16 → parsE t = .returned (.tuple #[.int .u64 0, .iface 102 (.int .i64 2)])) := fun h => parsE_no t k hlt (by rw [get_bang t k hin]; exact h)
      have hz0 : 0 ≤ z := by omega
      have hz8 : z < 256 := by omega
      have hy0 : 0 ≤ y := by omega
      have hy8 : y < 256 := by omega
      have HA : Hid (48 ≤ z ∧ z ≤ 57 → dg t[k].toNat = (z - 48).toNat) := fun h => by unfold dg; rw [if_pos (by omega)]; omega
      have HBx : Hid (¬ (48 ≤ z ∧ z ≤ 57) → 97 ≤ y → y ≤ 102 → dg t[k].toNat = (y - 87).toNat) := fun h h1 h2 => by rw [(hdg (by omega)).1 (by omega)]; omega
      have HCx : Hid (¬ (48 ≤ z ∧ z ≤ 57) → ¬ (97 ≤ y ∧ y ≤ 102) → dg t[k].toNat = 16) := fun h h1 => (hdg (by omega)).2 (by omega)
      have H95 : Hid (z = 95 → y = 127) := fun h => by
        have e : t[k].toNat = 95 := by omega
        rw [e] at hy; exact hy
      clear hdg hbo hL hc8 hz hy
      generalize hV : (vk t k : Int) = V at *
      have HV := Lib.hid hV
      have hV0 : 0 ≤ V := by omega
      have hV3 : V ≤ 4095 := by omega
      clear hV hv hv4 hv3
      by_cases c1 : 48 ≤ z
      · by_cases c2 : z ≤ 57
        · have E := Lib.hid (HZ.out _ (HA.out ⟨c1, c2⟩) (by omega))
          go_wp2_with fail
          exact ⟨⟨k + 1, by omega, by go_num, rfl, val_int (by rw [E.out.1]; have := HV.out; omega), E.out.2⟩, by simp [intOf]; omega⟩
        · have ND : Hid (¬ (48 ≤ z ∧ z ≤ 57)) := fun h => c2 h.2
          by_cases c95 : z = 95
          · have ey := H95.out c95
            have E := Lib.hid (HN.out (HCx.out ND.out (by omega)))
            subst c95 ey
            go_wp2_with (go_at_call 104; refine (HLC.out _).mono ?_; rintro e w' ⟨rfl, rfl⟩)
            go_ret2
            exact ⟨E.out.symm, HB.out⟩
          have h95 : (z == 95) = false := by simp [c95]
          clear c95
          by_cases c3 : 97 ≤ y
          · by_cases c4 : y ≤ 102
            · have E := Lib.hid (HZ.out _ (HBx.out ND.out c3 c4) (by omega))
              have c5 : y ≤ 122 := by omega
              go_wp2_with (go_at_call 104; refine (HLC.out _).mono ?_; rintro e w' ⟨rfl, rfl⟩)
              exact ⟨⟨k + 1, by omega, by go_num, rfl, val_int (by rw [E.out.1]; have := HV.out; omega), E.out.2⟩, by simp [intOf]; omega⟩
            · have E := Lib.hid (HN.out (HCx.out ND.out (by omega)))
              by_cases c5 : y ≤ 122
              · go_wp2_with (go_at_call 104; refine (HLC.out _).mono ?_; rintro e w' ⟨rfl, rfl⟩)
                go_ret2
                exact ⟨E.out.symm, HB.out⟩
              · go_wp2_with (go_at_call 104; refine (HLC.out _).mono ?_; rintro e w' ⟨rfl, rfl⟩)
                go_ret2
                exact ⟨E.out.symm, HB.out⟩
          · have E := Lib.hid (HN.out (HCx.out ND.out (by omega)))
            go_wp2_with (go_at_call 104; refine (HLC.out _).mono ?_; rintro e w' ⟨rfl, rfl⟩)
            go_ret2
            exact ⟨E.out.symm, HB.out⟩
      · have ND : Hid (¬ (48 ≤ z ∧ z ≤ 57)) := fun h => c1 h.1
        by_cases c3 : 97 ≤ y
        · by_cases c4 : y ≤ 102
          · have E := Lib.hid (HZ.out _ (HBx.out ND.out c3 c4) (by omega))
            have c5 : y ≤ 122 := by omega
            go_wp2_with (go_at_call 104; refine (HLC.out _).mono ?_; rintro e w' ⟨rfl, rfl⟩)
            exact ⟨⟨k + 1, by omega, by go_num, rfl, val_int (by rw [E.out.1]; have := HV.out; omega), E.out.2⟩, by simp [intOf]; omega⟩
          · have E := Lib.hid (HN.out (HCx.out ND.out (by omega)))
            by_cases c5 : y ≤ 122
            · go_wp2_with (go_at_call 104; refine (HLC.out _).mono ?_; rintro e w' ⟨rfl, rfl⟩)
              go_ret2
              exact ⟨E.out.symm, HB.out⟩
            · go_wp2_with (go_at_call 104; refine (HLC.out _).mono ?_; rintro e w' ⟨rfl, rfl⟩)
              go_ret2
              exact ⟨E.out.symm, HB.out⟩
        · have E := Lib.hid (HN.out (HCx.out ND.out (by omega)))
          go_wp2_with (go_at_call 104; refine (HLC.out _).mono ?_; rintro e w' ⟨rfl, rfl⟩)
          go_ret2
          exact ⟨E.out.symm, HB.out⟩
    · obtain rfl : k = 4 := by omega
      go_wp2_with fail
      go_ret2
      exact ⟨(parsE_yes t ht2 HD.out).symm, HB.out⟩
end Go.Proofs.YtejniiehfangkaaGreatDoor
