import Derived.Test.YtbfgekfajbbdaaaPlainE
import Derived.Laws.IdiomStrings
set_option linter.unusedVariables false
set_option linter.unusedSimpArgs false
namespace Go.Proofs.Ytbfgekfajbbdaaa
open Go.RowKit
set_option maxHeartbeats 1000000 in
set_option maxRecDepth 100000 in
theorem rune_no (r : Int) (h1 : -2147483648 ≤ r) (h2 : r ≤ 2147483647) (hr : isR r = false) (w : World) : Calls Try.prog 29 #[.int .i32 r] w fun e w' => e = .returned (.string ⟨#[]⟩) ∧ w = w' := by
  have hr' : ¬ ((0 ≤ r ∧ r < 55296) ∨ (57343 < r ∧ r ≤ 1114111)) := by
    intro h; have : isR r = true := by simpa [isR] using h
    rw [hr] at this; cases this
  clear hr
  by_cases a : r < 0
  · clear hr'
    go_enter Try.func29, Try.ntmps29
    go_wp2
    go_ret
    exact ⟨rfl, rfl⟩
  · by_cases b : 1114111 < r
    · clear hr'
      go_enter Try.func29, Try.ntmps29
      go_wp2
      go_ret
      exact ⟨rfl, rfl⟩
    · have c : 55296 ≤ r := by omega
      have d : r < 57344 := by omega
      clear hr'
      go_enter Try.func29, Try.ntmps29
      go_wp2
      go_ret
      exact ⟨rfl, rfl⟩
theorem conv_new (w : World) (l : List UInt8) (cs : Array Value) (n : Nat) (hn : l.length = n) (hcs : cs = (Lib.byteCells l).toArray) :
    (convert 34 9 (.slice (some ⟨w.heap.size, 0, none⟩) n n)).run Try.prog (w.alloc (.cells cs 5)) = .ok (.string ⟨l.toArray⟩) (w.alloc (.cells cs 5)) := by
  subst hn hcs
  refine run_convert_bytes_back (P := Try.prog) _ 34 9 5 ⟨w.heap.size, 0, none⟩ l.length l Try.underlying34 Try.underlying5 Try.underlying9 (fun j hj => ?_)
  exact cells_new w (Lib.byteCells l) 5 j _ (by simp [Lib.byteCells, hj])
set_option maxHeartbeats 1000000 in
set_option maxRecDepth 100000 in
theorem rune_1 (n : Nat) (r : Int) (hr : r = n) (h1 : 0 ≤ r) (h2 : r < 128) (w : World) : Calls Try.prog 29 #[.int .i32 r] w fun e w' => e = .returned (.string ⟨(encL n).toArray⟩) ∧ Below w.heap.size w w' := by
  have he : encL n = [UInt8.ofNat n] := by unfold encL; rw [if_pos (by omega)]
  have hbc : Lib.byteCells (encL n) = [.int .u8 (r)] := by
    rw [he]; simp only [Lib.byteCells, List.map_cons, List.map_nil, u8 n (by omega)]; subst hr; rfl
  have hcv := conv_new w (encL n) #[.int .u8 (r)] 1 (by rw [he]; rfl) (by rw [hbc])
  generalize encL n = L at *
  clear he hbc hr
  go_enter Try.func29, Try.ntmps29
  go_wp2
  go_ret
  exact ⟨rfl, (Below.refl _ _).alloc (Nat.le_refl _) _⟩
set_option maxHeartbeats 1000000 in
set_option maxRecDepth 100000 in
theorem rune_2 (n : Nat) (r : Int) (hr : r = n) (h1 : 128 ≤ r) (h2 : r < 2048) (w : World) : Calls Try.prog 29 #[.int .i32 r] w fun e w' => e = .returned (.string ⟨(encL n).toArray⟩) ∧ Below w.heap.size w w' := by
  have he : encL n = [UInt8.ofNat (192 + n / 64), UInt8.ofNat (128 + n % 64)] := by unfold encL; rw [if_neg (by omega), if_pos (by omega)]
  have hbc : Lib.byteCells (encL n) = [.int .u8 (192 + r / 64), .int .u8 (128 + r % 64)] := by
    rw [he]; simp only [Lib.byteCells, List.map_cons, List.map_nil, u8 (192 + n / 64) (by omega), u8 (128 + n % 64) (by omega)]; subst hr; rfl
  have hcv := conv_new w (encL n) #[.int .u8 (192 + r / 64), .int .u8 (128 + r % 64)] 2 (by rw [he]; rfl) (by rw [hbc])
  generalize encL n = L at *
  clear he hbc hr
  go_enter Try.func29, Try.ntmps29
  go_wp2
  go_ret
  exact ⟨rfl, (Below.refl _ _).alloc (Nat.le_refl _) _⟩
set_option maxHeartbeats 1000000 in
set_option maxRecDepth 100000 in
theorem rune_3a (n : Nat) (r : Int) (hr : r = n) (h1 : 2048 ≤ r) (h2 : r < 55296) (w : World) : Calls Try.prog 29 #[.int .i32 r] w fun e w' => e = .returned (.string ⟨(encL n).toArray⟩) ∧ Below w.heap.size w w' := by
  have he : encL n = [UInt8.ofNat (224 + n / 4096), UInt8.ofNat (128 + n / 64 % 64), UInt8.ofNat (128 + n % 64)] := by unfold encL; rw [if_neg (by omega), if_neg (by omega), if_pos (by omega)]
  have hbc : Lib.byteCells (encL n) = [.int .u8 (224 + r / 4096), .int .u8 (128 + r / 64 % 64), .int .u8 (128 + r % 64)] := by
    rw [he]; simp only [Lib.byteCells, List.map_cons, List.map_nil, u8 (224 + n / 4096) (by omega), u8 (128 + n / 64 % 64) (by omega), u8 (128 + n % 64) (by omega)]; subst hr; rfl
  have hcv := conv_new w (encL n) #[.int .u8 (224 + r / 4096), .int .u8 (128 + r / 64 % 64), .int .u8 (128 + r % 64)] 3 (by rw [he]; rfl) (by rw [hbc])
  generalize encL n = L at *
  clear he hbc hr
  go_enter Try.func29, Try.ntmps29
  go_wp2
  go_ret
  exact ⟨rfl, (Below.refl _ _).alloc (Nat.le_refl _) _⟩
set_option maxHeartbeats 1000000 in
set_option maxRecDepth 100000 in
theorem rune_3b (n : Nat) (r : Int) (hr : r = n) (h1 : 57344 ≤ r) (h2 : r < 65536) (w : World) : Calls Try.prog 29 #[.int .i32 r] w fun e w' => e = .returned (.string ⟨(encL n).toArray⟩) ∧ Below w.heap.size w w' := by
  have he : encL n = [UInt8.ofNat (224 + n / 4096), UInt8.ofNat (128 + n / 64 % 64), UInt8.ofNat (128 + n % 64)] := by unfold encL; rw [if_neg (by omega), if_neg (by omega), if_pos (by omega)]
  have hbc : Lib.byteCells (encL n) = [.int .u8 (224 + r / 4096), .int .u8 (128 + r / 64 % 64), .int .u8 (128 + r % 64)] := by
    rw [he]; simp only [Lib.byteCells, List.map_cons, List.map_nil, u8 (224 + n / 4096) (by omega), u8 (128 + n / 64 % 64) (by omega), u8 (128 + n % 64) (by omega)]; subst hr; rfl
  have hcv := conv_new w (encL n) #[.int .u8 (224 + r / 4096), .int .u8 (128 + r / 64 % 64), .int .u8 (128 + r % 64)] 3 (by rw [he]; rfl) (by rw [hbc])
  generalize encL n = L at *
  clear he hbc hr
  go_enter Try.func29, Try.ntmps29
  go_wp2
  go_ret
  exact ⟨rfl, (Below.refl _ _).alloc (Nat.le_refl _) _⟩
set_option maxHeartbeats 1000000 in
set_option maxRecDepth 100000 in
theorem rune_4 (n : Nat) (r : Int) (hr : r = n) (h1 : 65536 ≤ r) (h2 : r < 1114112) (w : World) : Calls Try.prog 29 #[.int .i32 r] w fun e w' => e = .returned (.string ⟨(encL n).toArray⟩) ∧ Below w.heap.size w w' := by
  have he : encL n = [UInt8.ofNat (240 + n / 262144), UInt8.ofNat (128 + n / 4096 % 64), UInt8.ofNat (128 + n / 64 % 64), UInt8.ofNat (128 + n % 64)] := by unfold encL; rw [if_neg (by omega), if_neg (by omega), if_neg (by omega)]
  have hbc : Lib.byteCells (encL n) = [.int .u8 (240 + r / 262144), .int .u8 (128 + r / 4096 % 64), .int .u8 (128 + r / 64 % 64), .int .u8 (128 + r % 64)] := by
    rw [he]; simp only [Lib.byteCells, List.map_cons, List.map_nil, u8 (240 + n / 262144) (by omega), u8 (128 + n / 4096 % 64) (by omega), u8 (128 + n / 64 % 64) (by omega), u8 (128 + n % 64) (by omega)]; subst hr; rfl
  have hcv := conv_new w (encL n) #[.int .u8 (240 + r / 262144), .int .u8 (128 + r / 4096 % 64), .int .u8 (128 + r / 64 % 64), .int .u8 (128 + r % 64)] 4 (by rw [he]; rfl) (by rw [hbc])
  generalize encL n = L at *
  clear he hbc hr
  go_enter Try.func29, Try.ntmps29
  go_wp2
  go_ret
  exact ⟨rfl, (Below.refl _ _).alloc (Nat.le_refl _) _⟩
theorem rune_yes (r : Int) (hr : isR r = true) (w : World) : Calls Try.prog 29 #[.int .i32 r] w fun e w' => e = .returned (.string ⟨(encL r.toNat).toArray⟩) ∧ Below w.heap.size w w' := by
  have hz := (isR_nat r hr).1
  have hr' : (0 ≤ r ∧ r < 55296) ∨ (57343 < r ∧ r ≤ 1114111) := by simpa [isR] using hr
  by_cases a : r < 128
  · exact rune_1 r.toNat r hz.symm (by omega) a w
  · by_cases b : r < 2048
    · exact rune_2 r.toNat r hz.symm (by omega) b w
    · by_cases c : r < 55296
      · exact rune_3a r.toNat r hz.symm (by omega) c w
      · by_cases d : r < 65536
        · exact rune_3b r.toNat r hz.symm (by omega) d w
        · exact rune_4 r.toNat r hz.symm (by omega) (by omega) w
end Go.Proofs.Ytbfgekfajbbdaaa
