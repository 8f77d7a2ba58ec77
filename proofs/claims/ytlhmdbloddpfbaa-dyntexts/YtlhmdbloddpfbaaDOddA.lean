/- dyn.oddOf of what holds no others. -/
import Derived.Test.YtlhmdbloddpfbaaDPut
set_option linter.unusedVariables false
set_option linter.unusedSimpArgs false
namespace Go.Proofs.Ytlhmdbloddpfbaa
open Go.RowKit
@[go_sem] theorem to_float (n : Int) (w : World) : (convert 2 116 (.int .i64 n)).run Try.prog w = .ok (.float .f64 (FloatKind.f64.nearest n)) w := by kernel_rfl
/-- What oddOf answers of a leaf. -/
def OddR (a : Va) (w : World) (e : Ending) (w' : World) : Prop := ∃ x, e = .returned (.tuple #[x, .slice none 0 0]) ∧ Ls w' (fun _ => False) a x ∧ Below w.heap.size w w'
set_option maxHeartbeats 1000000 in
set_option maxRecDepth 100000 in
theorem odd_1 (n : Int) (s : ByteArray) (l : List Va) (ks : List ByteArray) (f : List Va) (q : Addr) (w : World) (h0 : w.cell? q = some (.int .i64 1)) (h1 : w.cell? ⟨q.block, q.off + 1, none⟩ = some (.int .i64 n)) :
    Calls Try.prog 72 #[.pointer (some q)] w fun e w' => OddR (.mk 1 n s l ks f) w e w' := by
  go_enter Try.func72, Try.ntmps72
  go_wp2
  go_ret2
  exact ⟨_, rfl, .bool (by simp), Below.refl _ _⟩
set_option maxHeartbeats 1000000 in
set_option maxRecDepth 100000 in
theorem odd_2 (n : Int) (s : ByteArray) (l : List Va) (ks : List ByteArray) (f : List Va) (q : Addr) (w : World) (h0 : w.cell? q = some (.int .i64 2)) (h1 : w.cell? ⟨q.block, q.off + 1, none⟩ = some (.int .i64 n)) :
    Calls Try.prog 72 #[.pointer (some q)] w fun e w' => OddR (.mk 2 n s l ks f) w e w' := by
  go_enter Try.func72, Try.ntmps72
  go_wp2
  go_ret2
  exact ⟨_, rfl, .int, Below.refl _ _⟩
set_option maxHeartbeats 1000000 in
set_option maxRecDepth 100000 in
theorem odd_3 (n : Int) (s : ByteArray) (l : List Va) (ks : List ByteArray) (f : List Va) (q : Addr) (w : World) (hs : s.size ≤ 500) (h0 : w.cell? q = some (.int .i64 3)) (h1 : w.cell? ⟨q.block, q.off + 2, none⟩ = some (.string s)) :
    Calls Try.prog 72 #[.pointer (some q)] w fun e w' => OddR (.mk 3 n s l ks f) w e w' := by
  have HC := Lib.hid (clone_any s (by omega) w)
  go_enter Try.func72, Try.ntmps72
  go_wp2_with fail
  refine HC.out.mono ?_
  rintro e w1 ⟨rfl, hb1⟩
  have HB := Lib.hid hb1
  clear hb1 HC
  go_wp2_with fail
  go_ret2
  exact ⟨_, rfl, .str, HB.out⟩
set_option maxHeartbeats 1000000 in
set_option maxRecDepth 100000 in
theorem odd_9 (n : Int) (s : ByteArray) (l : List Va) (ks : List ByteArray) (f : List Va) (q : Addr) (w : World) (h0 : w.cell? q = some (.int .i64 9)) (h1 : w.cell? ⟨q.block, q.off + 1, none⟩ = some (.int .i64 n)) :
    Calls Try.prog 72 #[.pointer (some q)] w fun e w' => OddR (.mk 9 n s l ks f) w e w' := by
  go_enter Try.func72, Try.ntmps72
  go_wp2
  go_ret2
  exact ⟨_, rfl, .oint, Below.refl _ _⟩
set_option maxHeartbeats 1000000 in
set_option maxRecDepth 100000 in
theorem odd_10 (n : Int) (s : ByteArray) (l : List Va) (ks : List ByteArray) (f : List Va) (q : Addr) (w : World) (h0 : w.cell? q = some (.int .i64 10)) (h1 : w.cell? ⟨q.block, q.off + 1, none⟩ = some (.int .i64 n)) :
    Calls Try.prog 72 #[.pointer (some q)] w fun e w' => OddR (.mk 10 n s l ks f) w e w' := by
  go_enter Try.func72, Try.ntmps72
  go_wp2
  go_ret2
  exact ⟨_, rfl, .flt _, Below.refl _ _⟩
set_option maxHeartbeats 1000000 in
set_option maxRecDepth 100000 in
theorem odd_11 (n : Int) (s : ByteArray) (l : List Va) (ks : List ByteArray) (f : List Va) (q : Addr) (w : World) (h0 : w.cell? q = some (.int .i64 11)) :
    Calls Try.prog 72 #[.pointer (some q)] w fun e w' => OddR (.mk 11 n s l ks f) w e w' := by
  go_enter Try.func72, Try.ntmps72
  go_wp2
  go_ret2
  exact ⟨_, rfl, .lnil, Below.refl _ _⟩
set_option maxHeartbeats 1000000 in
set_option maxRecDepth 100000 in
theorem odd_12 (n : Int) (s : ByteArray) (l : List Va) (ks : List ByteArray) (f : List Va) (q : Addr) (w : World) (h0 : w.cell? q = some (.int .i64 12)) :
    Calls Try.prog 72 #[.pointer (some q)] w fun e w' => OddR (.mk 12 n s l ks f) w e w' := by
  go_enter Try.func72, Try.ntmps72
  go_wp2
  go_ret2
  exact ⟨_, rfl, .onil, Below.refl _ _⟩
set_option maxHeartbeats 1000000 in
set_option maxRecDepth 100000 in
theorem odd_no (k n : Int) (s : ByteArray) (l : List Va) (ks : List ByteArray) (f : List Va) (q : Addr) (w : World) (h0 : w.cell? q = some (.int .i64 k)) (hk : k ≠ 1 ∧ k ≠ 2 ∧ k ≠ 3 ∧ k ≠ 4 ∧ k ≠ 5 ∧ k ≠ 9 ∧ k ≠ 10 ∧ k ≠ 11 ∧ k ≠ 12) :
    Calls Try.prog 72 #[.pointer (some q)] w fun e w' => OddR (.mk k n s l ks f) w e w' := by
  have HK := Lib.hid hk
  obtain ⟨k1, k2, k3, k4, k5, k9, k10, k11, k12⟩ := hk
  have d1 : (k == 1) = false := by simp [k1]
  have d2 : (k == 2) = false := by simp [k2]
  have d3 : (k == 3) = false := by simp [k3]
  have d4 : (k == 4) = false := by simp [k4]
  have d5 : (k == 5) = false := by simp [k5]
  have d9 : (k == 9) = false := by simp [k9]
  have d10 : (k == 10) = false := by simp [k10]
  have d11 : (k == 11) = false := by simp [k11]
  have d12 : (k == 12) = false := by simp [k12]
  clear k1 k2 k3 k4 k5 k9 k10 k11 k12
  go_enter Try.func72, Try.ntmps72
  go_wp2
  go_ret2
  exact ⟨_, rfl, .none HK.out, Below.refl _ _⟩
/-- All kinds that hold no others. -/
theorem odd_leaf (a : Va) (S : Nat → Prop) (u : Hd) (q : Addr) (w : World) (H : Lies w S a u) (hq : At5 w q u) (hsh : a.Sh) (h4 : u.k ≠ 4) (h5 : u.k ≠ 5) : Calls Try.prog 72 #[.pointer (some q)] w fun e w' => OddR a w e w' := by
  obtain ⟨k, n, s, l, ks, f⟩ := a
  simp only [Lies] at H
  obtain ⟨⟨rfl, rfl, rfl, _, _, _⟩, -, -, -⟩ := H
  obtain ⟨q0, q1, q2, _, _⟩ := hq
  simp only [Va.Sh] at hsh
  by_cases k1 : u.k = 1
  · rw [k1] at q0 ⊢; exact odd_1 _ _ _ _ _ q w q0 q1
  by_cases k2 : u.k = 2
  · rw [k2] at q0 ⊢; exact odd_2 _ _ _ _ _ q w q0 q1
  by_cases k3 : u.k = 3
  · rw [k3] at q0 ⊢; exact odd_3 _ _ _ _ _ q w hsh.1 q0 q2
  by_cases k9 : u.k = 9
  · rw [k9] at q0 ⊢; exact odd_9 _ _ _ _ _ q w q0 q1
  by_cases k10 : u.k = 10
  · rw [k10] at q0 ⊢; exact odd_10 _ _ _ _ _ q w q0 q1
  by_cases k11 : u.k = 11
  · rw [k11] at q0 ⊢; exact odd_11 _ _ _ _ _ q w q0
  by_cases k12 : u.k = 12
  · rw [k12] at q0 ⊢; exact odd_12 _ _ _ _ _ q w q0
  exact odd_no _ _ _ _ _ _ q w q0 ⟨k1, k2, k3, h4, h5, k9, k10, k11, k12⟩
end Go.Proofs.Ytlhmdbloddpfbaa
