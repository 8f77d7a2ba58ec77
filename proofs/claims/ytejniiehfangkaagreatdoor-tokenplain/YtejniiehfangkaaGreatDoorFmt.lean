/- strconv.FormatInt at base 16, below 32. -/
import Derived.Test.YtejniiehfangkaaGreatDoorBld
import Derived.Laws.IdiomStrings
set_option linter.unusedVariables false
set_option linter.unusedSimpArgs false
namespace Go.Proofs.YtejniiehfangkaaGreatDoor
open Go.RowKit
/-- The one cell of the library's table that is read: how many noughts 16 ends with. -/
def Tab16 (w : World) : Prop := w.cell? ⟨5, 15, none⟩ = some (.int .u8 4)
theorem pow_any (w : World) : Calls Tryz.prog 131 #[.int .i64 16] w fun e w' => e = .returned (.bool true) ∧ w = w' := by
  go_enter Tryz.func131, Tryz.ntmps131
  go_wp2
  go_ret
  exact ⟨rfl, rfl⟩
theorem tz64 (w : World) (h : w.cell? ⟨5, 15, none⟩ = some (.int .u8 4)) : Calls Tryz.prog 137 #[.int .u64 16] w fun e w' => e = .returned (.int .i64 4) ∧ w = w' := by
  have e1 : IntKind.u64.wrap (-16) = 18446744073709551600 := by decide +kernel
  have e2 : bits BinOp.and IntKind.u64 16 18446744073709551600 = 16 := by decide +kernel
  have e3 : IntKind.u64.wrap (16 * 285870213051353865) = 4573923408821661840 := by decide +kernel
  have e4 : IntKind.u64.wrap 4573923408821661840 = 4573923408821661840 := by decide +kernel
  go_enter Tryz.func137, Tryz.ntmps137
  go_wp2
  go_ret
  exact ⟨rfl, rfl⟩
theorem tz_any (w : World) (h : Tab16 w) : Calls Tryz.prog 132 #[.int .u64 16] w fun e w' => e = .returned (.int .i64 4) ∧ w = w' := by
  go_enter Tryz.func132, Tryz.ntmps132
  go_wp2_with (go_at_call 137; refine (tz64 _ h).mono ?_; rintro e w' ⟨rfl, rfl⟩)
  go_ret
  exact ⟨rfl, rfl⟩
theorem tab_alloc {w : World} (h : Tab16 w) (o : Obj) : Tab16 (w.alloc o) := by
  have hl : 5 < w.heap.size := by
    unfold Tab16 World.cell? at h
    rcases Nat.lt_or_ge 5 w.heap.size with h' | h'
    · exact h'
    · rw [Array.getElem?_eq_none h'] at h; cases h
  exact (((Below.refl w.heap.size w).alloc (Nat.le_refl _) o).cell (p := ⟨5, 15, none⟩) hl).trans h
theorem conv_arr (w : World) (C : Array Value) (T : TypeId) (off n : Nat) (l : List UInt8) (hl : l.length = n) (hc : ∀ j (hj : j < l.length), C[off + j]? = some (.int .u8 (l[j].toNat : Int))) :
    (convert 34 9 (.slice (some ⟨w.heap.size, off, none⟩) n n)).run Tryz.prog (w.alloc (.cells C T)) = .ok (.string ⟨l.toArray⟩) (w.alloc (.cells C T)) := by
  subst hl
  refine run_convert_bytes_back (P := Tryz.prog) _ 34 9 5 ⟨w.heap.size, off, none⟩ l.length l Tryz.underlying34 Tryz.underlying5 Tryz.underlying9 (fun j hj => ?_)
  have : ((⟨w.heap.size, off, none⟩ : Addr).add j) = ⟨w.heap.size, off + j, none⟩ := by unfold Addr.add; split <;> simp_all
  rw [this, Lib.cell_of_heap (heap_alloc_new w (.cells C T))]
  exact hc j hj
def digs : ByteArray := ⟨#[48, 49, 50, 51, 52, 53, 54, 55, 56, 57, 97, 98, 99, 100, 101, 102, 103, 104, 105, 106, 107, 108, 109, 110, 111, 112, 113, 114, 115, 116, 117, 118, 119, 120, 121, 122]⟩
theorem digs_all : ∀ r : Fin 16, (digs.get! r.val) = hexB r.val := by decide +kernel
theorem digs_lt (r : Nat) (hr : r < 36) : r < digs.size := hr
theorem digs_at (r : Nat) (hr : r < 16) (h : r < digs.size) : digs[r] = hexB r := by
  have := digs_all ⟨r, hr⟩
  rw [get_bang digs r h] at this
  exact this
theorem zero65 : Tryz.zeroCells142.size = 65 := by kernel_rfl
set_option maxHeartbeats 1000000 in
set_option maxRecDepth 100000 in
theorem fb_low (r : Nat) (hr : r < 16) (w : World) (h : Tab16 w) : Calls Tryz.prog 119 #[.slice none 0 0, .int .u64 r, .int .i64 16, .bool false, .bool false] w fun e w' => e = .returned (.tuple #[.slice none 0 0, .string ⟨[hexB r].toArray⟩]) ∧ Below w.heap.size w w' := by
  have HT := Lib.hid (tab_alloc h)
  clear h
  have HZ := Lib.hid zero65
  go_enter Tryz.func119, Tryz.ntmps119
  go_wp2_with (first | (go_at_call 131; refine (pow_any _).mono ?_; rintro e w' ⟨rfl, rfl⟩) | (go_at_call 132; refine (tz_any _ (HT.out _)).mono ?_; rintro e w' ⟨rfl, rfl⟩))
  go_loop [1, 13] (fun u i => u = .int .u64 r ∧ i = .int .i64 65) (fun _ _ => 0)
  case atStart => exact ⟨rfl, rfl⟩
  case round =>
    obtain ⟨rfl, rfl⟩ := hrel
    go_wp2
    rw [conv_arr w _ 142 64 1 [hexB r] rfl (fun j hj => by
      obtain rfl : j = 0 := by simpa using hj
      simp only [Nat.add_zero]
      rw [Array.getElem?_setIfInBounds_self_of_lt (by rw [HZ.out]; decide)]
      exact congrArg (fun c : UInt8 => some (Value.int IntKind.u8 (c.toNat : Int))) (digs_at r hr (digs_lt r (by omega))))]
    simp only [Result.andThen]
    rw [Oper.upon_value]
    go_wp2
    go_ret2
    exact ⟨rfl, (Below.refl _ _).alloc (Nat.le_refl _) _⟩
theorem and15 (r : Nat) (h1 : 16 ≤ r) (h2 : r < 32) : bits BinOp.and IntKind.u64 (r : Int) 15 = ((r - 16 : Nat) : Int) := by
  have : ∀ k : Fin 16, bits BinOp.and IntKind.u64 ((k.val + 16 : Nat) : Int) 15 = ((k.val : Nat) : Int) := by decide +kernel
  have h := this ⟨r - 16, by omega⟩
  simp only [show r - 16 + 16 = r by omega] at h
  exact h
set_option maxHeartbeats 1000000 in
set_option maxRecDepth 100000 in
theorem fb_high (r : Nat) (h1 : 16 ≤ r) (h2 : r < 32) (w : World) (h : Tab16 w) : Calls Tryz.prog 119 #[.slice none 0 0, .int .u64 r, .int .i64 16, .bool false, .bool false] w fun e w' => e = .returned (.tuple #[.slice none 0 0, .string ⟨[hexB 1, hexB (r - 16)].toArray⟩]) ∧ Below w.heap.size w w' := by
  have HT := Lib.hid (tab_alloc h)
  clear h
  have HZ := Lib.hid zero65
  have ha := and15 r h1 h2
  have hd : (r : Int) / 16 = 1 := by omega
  go_enter Tryz.func119, Tryz.ntmps119
  go_wp2_with (first | (go_at_call 131; refine (pow_any _).mono ?_; rintro e w' ⟨rfl, rfl⟩) | (go_at_call 132; refine (tz_any _ (HT.out _)).mono ?_; rintro e w' ⟨rfl, rfl⟩))
  go_loopw [1, 13] (fun u i wr => (u = .int .u64 r ∧ i = .int .i64 65 ∧ wr = w.alloc (.cells Tryz.zeroCells142 142)) ∨ (u = .int .u64 1 ∧ i = .int .i64 64 ∧ wr = w.alloc (.cells (Tryz.zeroCells142.setIfInBounds 64 (.int .u8 (hexB (r - 16)).toNat)) 142))) (fun u _ _ => (intOf u).toNat)
  case atStart => exact .inl ⟨rfl, rfl, rfl⟩
  case round =>
    rcases hrel with ⟨rfl, rfl, rfl⟩ | ⟨rfl, rfl, rfl⟩
    · go_wp2
      refine ⟨.inr ⟨rfl, rfl, ?_⟩, by simp [intOf]; omega⟩
      exact congrArg (fun c : UInt8 => w.alloc (.cells (Tryz.zeroCells142.setIfInBounds 64 (.int .u8 (c.toNat : Int))) 142)) (digs_at (r - 16) (by omega) (digs_lt _ (by omega)))
    · go_wp2
      rw [conv_arr w _ 142 63 2 [hexB 1, hexB (r - 16)] rfl (fun j hj => by
        have hj' : j < 2 := hj
        obtain rfl | rfl : j = 0 ∨ j = 1 := by omega
        · simp only [Nat.add_zero]
          rw [Array.getElem?_setIfInBounds_self_of_lt (by rw [Array.size_setIfInBounds, HZ.out]; decide)]
          exact congrArg (fun c : UInt8 => some (Value.int IntKind.u8 (c.toNat : Int))) (digs_at 1 (by omega) (digs_lt _ (by omega)))
        · rw [Array.getElem?_setIfInBounds_ne (by decide), Array.getElem?_setIfInBounds_self_of_lt (by rw [HZ.out]; decide)]
          rfl)]
      simp only [Result.andThen]
      rw [Oper.upon_value]
      go_wp2
      go_ret2
      exact ⟨rfl, (Below.refl _ _).alloc (Nat.le_refl _) _⟩
/-- The digits of a number below 32. -/
def hexD (r : Nat) : List UInt8 := if r < 16 then [hexB r] else [hexB 1, hexB (r - 16)]
theorem fb_any (r : Nat) (h2 : r < 32) (w : World) (h : Tab16 w) : Calls Tryz.prog 119 #[.slice none 0 0, .int .u64 r, .int .i64 16, .bool false, .bool false] w fun e w' => e = .returned (.tuple #[.slice none 0 0, .string ⟨(hexD r).toArray⟩]) ∧ Below w.heap.size w w' := by
  by_cases h1 : r < 16
  · unfold hexD; rw [if_pos h1]; exact fb_low r h1 w h
  · unfold hexD; rw [if_neg h1]; exact fb_high r (by omega) h2 w h
set_option maxHeartbeats 1000000 in
set_option maxRecDepth 100000 in
theorem fmt_in (r : Nat) (h2 : r < 32) (w : World) (h : Tab16 w) : Calls Tryz.prog 103 #[.int .i64 r, .int .i64 16] w fun e w' => e = .returned (.string ⟨(hexD r).toArray⟩) ∧ Below w.heap.size w w' := by
  have k := fun w h => fb_any r h2 w h
  generalize hexD r = L at *
  have K := Lib.hid k
  clear k
  go_enter Tryz.func103, Tryz.ntmps103
  go_wp2_with (go_at_call 119; refine (K.out _ h).mono ?_; rintro e w' ⟨rfl, hb⟩)
  go_ret
  exact ⟨rfl, hb⟩
theorem fmt_any (r : Nat) (h2 : r < 32) (w : World) (h : Tab16 w) : Calls Tryz.prog 89 #[.int .i64 r, .int .i64 16] w fun e w' => e = .returned (.string ⟨(hexD r).toArray⟩) ∧ Below w.heap.size w w' := by
  have k := fun w h => fmt_in r h2 w h
  generalize hexD r = L at *
  have K := Lib.hid k
  clear k
  go_enter Tryz.func89, Tryz.ntmps89
  go_wp2_with (go_at_call 103; refine (K.out _ h).mono ?_; rintro e w' ⟨rfl, hb⟩)
  go_ret
  exact ⟨rfl, hb⟩
end Go.Proofs.YtejniiehfangkaaGreatDoor
