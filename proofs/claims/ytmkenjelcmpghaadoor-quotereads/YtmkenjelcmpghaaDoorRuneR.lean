/- The document's own Rune. -/
import Derived.Test.YtmkenjelcmpghaaDoorQRef
set_option linter.unusedVariables false
set_option linter.unusedSimpArgs false
namespace Go.Proofs.YtmkenjelcmpghaaDoor
open Go.RowKit
set_option maxHeartbeats 1000000 in
set_option maxRecDepth 100000 in
theorem rune_1 (n : Nat) (r : Int) (hr : r = n) (h1 : 0 ≤ r) (h2 : r < 128) (w : World) : Calls Tryd.prog 27 #[.int .i32 r] w fun e w' => e = .returned (.string ⟨(encL n).toArray⟩) ∧ Below w.heap.size w w' := by
  have he : encL n = [UInt8.ofNat n] := by unfold encL; rw [if_pos (by omega)]
  have hbc : Lib.byteCells (encL n) = [.int .u8 (r)] := by
    rw [he]; simp only [Lib.byteCells, List.map_cons, List.map_nil, u8 n (by omega)]; subst hr; rfl
  have hcv := conv_new w (encL n) #[.int .u8 (r)] 1 (by rw [he]; rfl) (by rw [hbc])
  generalize encL n = L at *
  clear he hbc hr
  go_enter Tryd.func27, Tryd.ntmps27
  go_wp2
  go_ret
  exact ⟨rfl, (Below.refl _ _).alloc (Nat.le_refl _) _⟩
set_option maxHeartbeats 1000000 in
set_option maxRecDepth 100000 in
theorem rune_2 (n : Nat) (r : Int) (hr : r = n) (h1 : 128 ≤ r) (h2 : r < 2048) (w : World) : Calls Tryd.prog 27 #[.int .i32 r] w fun e w' => e = .returned (.string ⟨(encL n).toArray⟩) ∧ Below w.heap.size w w' := by
  have he : encL n = [UInt8.ofNat (192 + n / 64), UInt8.ofNat (128 + n % 64)] := by unfold encL; rw [if_neg (by omega), if_pos (by omega)]
  have hbc : Lib.byteCells (encL n) = [.int .u8 (192 + r / 64), .int .u8 (128 + r % 64)] := by
    rw [he]; simp only [Lib.byteCells, List.map_cons, List.map_nil, u8 (192 + n / 64) (by omega), u8 (128 + n % 64) (by omega)]; subst hr; rfl
  have hcv := conv_new w (encL n) #[.int .u8 (192 + r / 64), .int .u8 (128 + r % 64)] 2 (by rw [he]; rfl) (by rw [hbc])
  generalize encL n = L at *
  clear he hbc hr
  go_enter Tryd.func27, Tryd.ntmps27
  go_wp2
  go_ret
  exact ⟨rfl, (Below.refl _ _).alloc (Nat.le_refl _) _⟩
set_option maxHeartbeats 1000000 in
set_option maxRecDepth 100000 in
theorem rune_3a (n : Nat) (r : Int) (hr : r = n) (h1 : 2048 ≤ r) (h2 : r < 55296) (w : World) : Calls Tryd.prog 27 #[.int .i32 r] w fun e w' => e = .returned (.string ⟨(encL n).toArray⟩) ∧ Below w.heap.size w w' := by
  have he : encL n = [UInt8.ofNat (224 + n / 4096), UInt8.ofNat (128 + n / 64 % 64), UInt8.ofNat (128 + n % 64)] := by unfold encL; rw [if_neg (by omega), if_neg (by omega), if_pos (by omega)]
  have hbc : Lib.byteCells (encL n) = [.int .u8 (224 + r / 4096), .int .u8 (128 + r / 64 % 64), .int .u8 (128 + r % 64)] := by
    rw [he]; simp only [Lib.byteCells, List.map_cons, List.map_nil, u8 (224 + n / 4096) (by omega), u8 (128 + n / 64 % 64) (by omega), u8 (128 + n % 64) (by omega)]; subst hr; rfl
  have hcv := conv_new w (encL n) #[.int .u8 (224 + r / 4096), .int .u8 (128 + r / 64 % 64), .int .u8 (128 + r % 64)] 3 (by rw [he]; rfl) (by rw [hbc])
  generalize encL n = L at *
  clear he hbc hr
  go_enter Tryd.func27, Tryd.ntmps27
  go_wp2
  go_ret
  exact ⟨rfl, (Below.refl _ _).alloc (Nat.le_refl _) _⟩
set_option maxHeartbeats 1000000 in
set_option maxRecDepth 100000 in
theorem rune_3b (n : Nat) (r : Int) (hr : r = n) (h1 : 57344 ≤ r) (h2 : r < 65536) (w : World) : Calls Tryd.prog 27 #[.int .i32 r] w fun e w' => e = .returned (.string ⟨(encL n).toArray⟩) ∧ Below w.heap.size w w' := by
  have he : encL n = [UInt8.ofNat (224 + n / 4096), UInt8.ofNat (128 + n / 64 % 64), UInt8.ofNat (128 + n % 64)] := by unfold encL; rw [if_neg (by omega), if_neg (by omega), if_pos (by omega)]
  have hbc : Lib.byteCells (encL n) = [.int .u8 (224 + r / 4096), .int .u8 (128 + r / 64 % 64), .int .u8 (128 + r % 64)] := by
    rw [he]; simp only [Lib.byteCells, List.map_cons, List.map_nil, u8 (224 + n / 4096) (by omega), u8 (128 + n / 64 % 64) (by omega), u8 (128 + n % 64) (by omega)]; subst hr; rfl
  have hcv := conv_new w (encL n) #[.int .u8 (224 + r / 4096), .int .u8 (128 + r / 64 % 64), .int .u8 (128 + r % 64)] 3 (by rw [he]; rfl) (by rw [hbc])
  generalize encL n = L at *
  clear he hbc hr
  go_enter Tryd.func27, Tryd.ntmps27
  go_wp2
  go_ret
  exact ⟨rfl, (Below.refl _ _).alloc (Nat.le_refl _) _⟩
set_option maxHeartbeats 1000000 in
set_option maxRecDepth 100000 in
theorem rune_4 (n : Nat) (r : Int) (hr : r = n) (h1 : 65536 ≤ r) (h2 : r < 1114112) (w : World) : Calls Tryd.prog 27 #[.int .i32 r] w fun e w' => e = .returned (.string ⟨(encL n).toArray⟩) ∧ Below w.heap.size w w' := by
  have he : encL n = [UInt8.ofNat (240 + n / 262144), UInt8.ofNat (128 + n / 4096 % 64), UInt8.ofNat (128 + n / 64 % 64), UInt8.ofNat (128 + n % 64)] := by unfold encL; rw [if_neg (by omega), if_neg (by omega), if_neg (by omega)]
  have hbc : Lib.byteCells (encL n) = [.int .u8 (240 + r / 262144), .int .u8 (128 + r / 4096 % 64), .int .u8 (128 + r / 64 % 64), .int .u8 (128 + r % 64)] := by
    rw [he]; simp only [Lib.byteCells, List.map_cons, List.map_nil, u8 (240 + n / 262144) (by omega), u8 (128 + n / 4096 % 64) (by omega), u8 (128 + n / 64 % 64) (by omega), u8 (128 + n % 64) (by omega)]; subst hr; rfl
  have hcv := conv_new w (encL n) #[.int .u8 (240 + r / 262144), .int .u8 (128 + r / 4096 % 64), .int .u8 (128 + r / 64 % 64), .int .u8 (128 + r % 64)] 4 (by rw [he]; rfl) (by rw [hbc])
  generalize encL n = L at *
  clear he hbc hr
  go_enter Tryd.func27, Tryd.ntmps27
  go_wp2
  go_ret
  exact ⟨rfl, (Below.refl _ _).alloc (Nat.le_refl _) _⟩
theorem rune_yes (r : Int) (hr : isR r = true) (w : World) : Calls Tryd.prog 27 #[.int .i32 r] w fun e w' => e = .returned (.string ⟨(encL r.toNat).toArray⟩) ∧ Below w.heap.size w w' := by
  have hz := (isR_nat r hr).1
  have hr' : (0 ≤ r ∧ r < 55296) ∨ (57343 < r ∧ r ≤ 1114111) := by simpa [isR] using hr
  by_cases a : r < 128
  · exact rune_1 r.toNat r hz.symm (by omega) a w
  · by_cases b : r < 2048
    · exact rune_2 r.toNat r hz.symm (by omega) b w
    · by_cases c : r < 55296
      · exact rune_3a r.toNat r hz.symm (by omega) c w
      · by_cases d : r < 65536
        · exact rune_3b r.toNat r hz.symm (by omega) d w
        · exact rune_4 r.toNat r hz.symm (by omega) (by omega) w
end Go.Proofs.YtmkenjelcmpghaaDoor
