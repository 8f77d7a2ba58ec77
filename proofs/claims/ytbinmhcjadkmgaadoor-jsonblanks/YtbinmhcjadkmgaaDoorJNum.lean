/- The reference's Number: decimal digits. -/
import Derived.Test.YtbinmhcjadkmgaaDoorJPlain
import Derived.Test.YtbinmhcjadkmgaaDoorQRef
set_option linter.unusedVariables false
set_option linter.unusedSimpArgs false
namespace Go.Proofs.YtbinmhcjadkmgaaDoor
open Go.RowKit
/-- Digits: what is told so far, of a number of which v is left. -/
def DigI (u k v : Nat) (t : List UInt8) : Prop := v * 10 ^ k ≤ u ∧ t.length ≤ k ∧ Lib.decDigits u = (if v = 0 then [] else Lib.decDigits v) ++ t
theorem DigI.step {u k v : Nat} {t : List UInt8} (h : DigI u k v t) (hv : v ≠ 0) : DigI u (k + 1) (v / 10) (UInt8.ofNat (48 + v % 10) :: t) := by
  obtain ⟨h1, h2, h3⟩ := h
  refine ⟨?_, by simp; omega, ?_⟩
  · have : v / 10 * 10 ^ (k + 1) = (v / 10 * 10) * 10 ^ k := by rw [Nat.pow_succ, Nat.mul_comm (10 ^ k) 10, ← Nat.mul_assoc]
    rw [this]
    exact Nat.le_trans (Nat.mul_le_mul_right _ (Nat.div_mul_le_self v 10)) h1
  · rw [h3, if_neg hv]
    by_cases h10 : v < 10
    · have h0 : v / 10 = 0 := by omega
      rw [h0, if_pos rfl, Lib.decDigits_one h10, Nat.mod_eq_of_lt h10]
      rfl
    · have h0 : v / 10 ≠ 0 := by omega
      rw [if_neg h0, Lib.decDigits, dif_neg h10]
      simp
theorem DigI.few {u k v : Nat} {t : List UInt8} (h : DigI u k v t) (hu : u < 10 ^ 19) (hv : v ≠ 0) : k < 19 := by
  rcases Nat.lt_or_ge k 19 with h' | h'
  · exact h'
  · have h1 := h.1
    have h2 : 10 ^ 19 ≤ 10 ^ k := Nat.pow_le_pow_right (by decide) h'
    have h3 : 1 * 10 ^ k ≤ v * 10 ^ k := Nat.mul_le_mul_right _ (by omega)
    omega
theorem digit_new (wr : World) (v : Nat) : (convert 36 9 (.slice (some ⟨wr.heap.size, 0, none⟩) 1 1)).run Tryd.prog (wr.alloc (.cells #[.int .u8 (48 + (v : Int) % 10)] 5)) = .ok (.string ⟨#[UInt8.ofNat (48 + v % 10)]⟩) (wr.alloc (.cells #[.int .u8 (48 + (v : Int) % 10)] 5)) :=
  conv_new wr [UInt8.ofNat (48 + v % 10)] _ 1 rfl (by simp [Lib.byteCells]; omega)
theorem digit_zero (wr : World) (v : Nat) (h : v % 10 = 0) : (convert 36 9 (.slice (some ⟨wr.heap.size, 0, none⟩) 1 1)).run Tryd.prog (wr.alloc (.cells #[.int .u8 (48 + -((v : Int) % 10))] 5)) = .ok (.string ⟨#[UInt8.ofNat (48 + v % 10)]⟩) (wr.alloc (.cells #[.int .u8 (48 + -((v : Int) % 10))] 5)) :=
  conv_new wr [UInt8.ofNat (48 + v % 10)] _ 1 rfl (by rw [h]; simp [Lib.byteCells]; omega)
set_option maxHeartbeats 1000000 in
set_option maxRecDepth 100000 in
theorem number_pos (u : Nat) (hu : u < 9223372036854775808) (h0 : u ≠ 0) (w : World) : Calls Tryd.prog 19 #[.int .i64 u] w fun e w' => e = .returned (.string ⟨(Lib.decDigits u).toArray⟩) ∧ Below w.heap.size w w' := by
  have hz : ((u : Int) == 0) = false := by simp; omega
  go_enter Tryd.func19, Tryd.ntmps19
  go_wp2_with fail
  go_loopw [0, 3, 5] (fun nv sv kv wr => ∃ (v k : Nat) (t : List UInt8), nv = .int .i64 v ∧ sv = .string ⟨t.toArray⟩ ∧ kv = .int .i64 k ∧ k ≤ 20 ∧ v ≤ u ∧ DigI u k v t ∧ Below w.heap.size w wr) (fun _ _ kv _ => 20 - (intOf kv).toNat)
  case atStart => exact ⟨u, 0, [], rfl, rfl, rfl, by omega, Nat.le_refl _, ⟨by simp, by simp, by rw [if_neg h0]; simp⟩, Below.refl _ _⟩
  case round =>
    obtain ⟨v, k, t, rfl, rfl, rfl, hk, hv, hd, hb⟩ := hrel
    have HD := Lib.hid hd
    have ht := hd.2.1
    by_cases hv0 : v = 0
    · subst hv0
      have HE : Hid (Lib.decDigits u = t) := by have := HD.out.2.2; rw [if_pos rfl] at this; exact this
      clear hd HD
      by_cases hk20 : k < 20
      · go_wp2_with fail
        go_ret
        exact ⟨by rw [HE.out, show (⟨#[]⟩ : ByteArray) ++ ⟨t.toArray⟩ = ⟨t.toArray⟩ from mk_app [] t]; rfl, hb⟩
      · go_wp2_with fail
        go_ret
        exact ⟨by rw [HE.out, show (⟨#[]⟩ : ByteArray) ++ ⟨t.toArray⟩ = ⟨t.toArray⟩ from mk_app [] t]; rfl, hb⟩
    · have hk19 := hd.few (by omega) hv0
      have hvz : ((v : Int) != 0) = true := by simp; omega
      have hcv := digit_new wr v
      clear hd
      go_wp2_with fail
      refine ⟨⟨v / 10, k + 1, UInt8.ofNat (48 + v % 10) :: t, by rw [Int.natCast_ediv]; rfl, ?_, by rw [Int.natCast_add]; rfl, by omega, by omega, HD.out.step hv0, hb.alloc (by have := hb.size; omega) _⟩, by simp [intOf]; omega⟩
      have e : (48 : UInt8) + UInt8.ofNat (v % 10) = UInt8.ofNat (48 + v % 10) := by rw [UInt8.ofNat_add]; rfl
      rw [e]
      exact congrArg Value.string (mk_app [UInt8.ofNat (48 + v % 10)] t)
set_option maxHeartbeats 1000000 in
set_option maxRecDepth 100000 in
theorem number_neg (u : Nat) (hu : u < 9223372036854775808) (h0 : u ≠ 0) (w : World) : Calls Tryd.prog 19 #[.int .i64 (-(u : Int))] w fun e w' => e = .returned (.string ⟨(45 :: Lib.decDigits u).toArray⟩) ∧ Below w.heap.size w w' := by
  have hz : ((-(u : Int)) == 0) = false := by simp; omega
  have hup : 0 < u := by omega
  go_enter Tryd.func19, Tryd.ntmps19
  go_wp2_with fail
  go_loopw [0, 3, 5] (fun nv sv kv wr => ∃ (v k : Nat) (t : List UInt8), nv = .int .i64 (-(v : Int)) ∧ sv = .string ⟨t.toArray⟩ ∧ kv = .int .i64 k ∧ k ≤ 20 ∧ v ≤ u ∧ DigI u k v t ∧ Below w.heap.size w wr) (fun _ _ kv _ => 20 - (intOf kv).toNat)
  case atStart => exact ⟨u, 0, [], rfl, rfl, rfl, by omega, Nat.le_refl _, ⟨by simp, by simp, by rw [if_neg h0]; simp⟩, Below.refl _ _⟩
  case round =>
    obtain ⟨v, k, t, rfl, rfl, rfl, hk, hv, hd, hb⟩ := hrel
    have HD := Lib.hid hd
    have ht := hd.2.1
    by_cases hv0 : v = 0
    · subst hv0
      have HE : Hid (Lib.decDigits u = t) := by have := HD.out.2.2; rw [if_pos rfl] at this; exact this
      clear hd HD
      by_cases hk20 : k < 20
      · go_wp2_with fail
        go_ret
        exact ⟨by rw [HE.out, show (⟨#[45]⟩ : ByteArray) ++ ⟨t.toArray⟩ = ⟨(45 :: t).toArray⟩ from mk_app [45] t]; rfl, hb⟩
      · go_wp2_with fail
        go_ret
        exact ⟨by rw [HE.out, show (⟨#[45]⟩ : ByteArray) ++ ⟨t.toArray⟩ = ⟨(45 :: t).toArray⟩ from mk_app [45] t]; rfl, hb⟩
    · have hk19 := hd.few (by omega) hv0
      have hvz : ((-(v : Int)) != 0) = true := by simp; omega
      have e : (48 : UInt8) + UInt8.ofNat (v % 10) = UInt8.ofNat (48 + v % 10) := by rw [UInt8.ofNat_add]; rfl
      have E := Lib.hid e
      clear e hd
      by_cases hm : v % 10 = 0
      · have hm' : ¬ (0 < (v : Int) % 10) := by omega
        have hcv := digit_zero wr v hm
        have HM := Lib.hid hm
        clear hm
        go_wp2_with fail
        refine ⟨⟨v / 10, k + 1, UInt8.ofNat (48 + v % 10) :: t, by rw [Int.natCast_ediv]; rfl, ?_, by rw [Int.natCast_add]; rfl, by omega, by omega, HD.out.step hv0, hb.alloc (by have := hb.size; omega) _⟩, by simp [intOf]; omega⟩
        rw [E.out]
        exact congrArg Value.string (mk_app [UInt8.ofNat (48 + v % 10)] t)
      · have hm' : 0 < (v : Int) % 10 := by omega
        have hcv := digit_new wr v
        have HM := Lib.hid hm
        clear hm
        go_wp2_with fail
        refine ⟨⟨v / 10, k + 1, UInt8.ofNat (48 + v % 10) :: t, by rw [Int.natCast_ediv]; rfl, ?_, by rw [Int.natCast_add]; rfl, by omega, by omega, HD.out.step hv0, hb.alloc (by have := hb.size; omega) _⟩, by simp [intOf]; omega⟩
        rw [E.out]
        exact congrArg Value.string (mk_app [UInt8.ofNat (48 + v % 10)] t)
set_option maxRecDepth 100000 in
theorem number_zero (w : World) : Calls Tryd.prog 19 #[.int .i64 0] w fun e w' => e = .returned (.string ⟨#[48]⟩) ∧ Below w.heap.size w w' := by
  go_enter Tryd.func19, Tryd.ntmps19
  go_wp2_with fail
  go_ret
  exact ⟨rfl, Below.refl _ _⟩
theorem number_ref (n : Int) (h0 : -9223372036854775808 < n) (h1 : n ≤ 9223372036854775807) (w : World) : Calls Tryd.prog 19 #[.int .i64 n] w fun e w' => e = .returned (.string ⟨(Lib.itoa n).toArray⟩) ∧ Below w.heap.size w w' := by
  rcases Int.lt_trichotomy n 0 with h | h | h
  · have k := number_neg n.natAbs (by omega) (by omega) w
    have e : -((n.natAbs : Nat) : Int) = n := by omega
    rw [e] at k
    have e2 : Lib.itoa n = 45 :: Lib.decDigits n.natAbs := by unfold Lib.itoa; rw [if_pos h]
    rw [e2]
    exact k
  · subst h
    have e2 : Lib.itoa 0 = [48] := by unfold Lib.itoa; rw [if_neg (by decide)]; exact Lib.decDigits_one (by decide)
    rw [e2]
    exact number_zero w
  · have k := number_pos n.toNat (by omega) (by omega) w
    have e : ((n.toNat : Nat) : Int) = n := by omega
    rw [e] at k
    have e2 : Lib.itoa n = Lib.decDigits n.toNat := by unfold Lib.itoa; rw [if_neg (by omega)]
    rw [e2]
    exact k
end Go.Proofs.YtbinmhcjadkmgaaDoor
