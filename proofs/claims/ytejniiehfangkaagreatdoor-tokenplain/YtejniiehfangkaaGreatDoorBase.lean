import Derived.Test.YtejniiehfangkaaGreatDoorRows
import Derived.Test.YtejniiehfangkaaGreatDoorPlain
import Derived.WalkKit
import Derived.ProofKit
import Derived.OpenShut
import Derived.ShutString
import Derived.WalkSpells
import Derived.Lib.Hide
set_option linter.unusedVariables false
set_option linter.unusedSimpArgs false
namespace Go.Proofs.YtejniiehfangkaaGreatDoor
open Go.RowKit
theorem ret_bool {a b : Bool} (h : a = b) : Ending.returned (.bool a) = .returned (.bool b) := by rw [h]
theorem ret_int {k : IntKind} {a b : Int} (h : a = b) : Ending.returned (.int k a) = .returned (.int k b) := by rw [h]
theorem prefix_any (s p : ByteArray) (w : World) : Calls Tryz.prog 37 #[.string s, .string p] w fun e w' => e = .returned (.bool (Lib.hasPrefix s.data.toList p.data.toList)) ∧ w = w' := by
  rw [← Lib.hasPrefix_raw]
  by_cases h : p.size ≤ s.size
  · go_enter Tryz.func37, Tryz.ntmps37
    go_wp2
    go_ret
    exact ⟨ret_bool (by simp [h]), rfl⟩
  · go_enter Tryz.func37, Tryz.ntmps37
    go_wp2
    go_ret
    exact ⟨ret_bool (by simp [h]), rfl⟩
theorem rep_any (s : ByteArray) (hs : s.size ≤ maxLen) (i : Nat) (hi : i ≤ s.size) (w : World) : Calls Tryz.prog 32 #[.string s, .int .i64 i] w fun e w' => e = .returned (.bool (repAt s i)) ∧ w = w' := by
  unfold maxLen at hs
  unfold repAt
  go_enter Tryz.func32, Tryz.ntmps32
  go_wp2_with (go_at_call 37; refine (prefix_any _ _ _).mono ?_; rintro e w' ⟨rfl, rfl⟩)
  go_ret
  exact ⟨ret_bool (by rw [Lib.extract_data]), rfl⟩
set_option maxHeartbeats 400000 in
theorem bad_any (s : ByteArray) (hs : s.size ≤ maxLen) (w : World) : Calls Tryz.prog 18 #[.string s] w fun e w' => e = .returned (.int .i64 (badI s)) ∧ Below w.heap.size w w' := by
  have hm := hs
  unfold maxLen at hs
  go_enter Tryz.func18, Tryz.ntmps18
  go_wp2
  go_loopw [] (fun w' => ∃ pos b : Nat, w' = w.iter s pos ∧ badF s b pos = badF s (s.size + 1) 0 ∧ s.size < pos + b) (fun w' => s.size - w'.iterPos w.heap.size)
  case atStart => exact ⟨0, s.size + 1, rfl, rfl, by omega⟩
  case round =>
    obtain ⟨pos, b, rfl, hc, hb⟩ := hrel
    have HC := Lib.hid hc
    clear hc
    by_cases hp : pos < s.size
    · have hnx : ∀ ty, (Instr.next (.pointer (some ⟨w.heap.size, 0, none⟩)) true ty).run Tryz.prog (w.iter s pos) = _ := fun ty => run_next_any w s pos ty hp
      have hwd := width_pos s pos hp
      by_cases hr : (Utf8.decode s pos).1 = 65533
      · have hz : (((Utf8.decode s pos).1 : Int) == 65533) = true := by rw [hr]; rfl
        have hba := badAt_rep s pos hr
        have HB := Lib.hid hba
        clear hba hr
        by_cases hrep : repAt s pos = true
        · go_wp2_with (go_at_call 32; refine (rep_any s hm pos (by omega) _).mono ?_; rintro e w' ⟨rfl, rfl⟩)
          obtain ⟨g, h1, h2⟩ := badF_go s b pos hp hb (by rw [HB.out, hrep]; rfl)
          exact ⟨⟨_, g, rfl, by rw [← h1]; exact HC.out, h2⟩, by simp; omega⟩
        · have hrep' : repAt s pos = false := by simpa using hrep
          clear hrep
          go_wp2_with (go_at_call 32; refine (rep_any s hm pos (by omega) _).mono ?_; rintro e w' ⟨rfl, rfl⟩)
          go_ret
          refine ⟨ret_int ?_, (Below.refl _ _).alloc (Nat.le_refl _) _⟩
          unfold badI
          rw [← HC.out, badF_hit s b pos hp hb (by rw [HB.out, hrep']; rfl)]
      · have hz : (((Utf8.decode s pos).1 : Int) == 65533) = false := by simp; omega
        have hba := badAt_not s pos hr
        have HB := Lib.hid hba
        clear hba hr
        go_wp2_with fail
        obtain ⟨g, h1, h2⟩ := badF_go s b pos hp hb HB.out
        exact ⟨⟨_, g, rfl, by rw [← h1]; exact HC.out, h2⟩, by simp; omega⟩
    · have hnx : ∀ ty, (Instr.next (.pointer (some ⟨w.heap.size, 0, none⟩)) true ty).run Tryz.prog (w.iter s pos) = _ := fun ty => run_next_end w s pos ty hp
      go_wp2
      go_ret
      refine ⟨ret_int ?_, (Below.refl _ _).alloc (Nat.le_refl _) _⟩
      unfold badI
      rw [← HC.out, badF_end s b pos hp]
theorem badF_ge (s : ByteArray) : ∀ f i, -1 ≤ badF s f i ∧ badF s f i ≤ s.size
  | 0, _ => by simp [badF]
  | f + 1, i => by
    have := badF_ge s f (i + (Utf8.decode s i).2)
    simp only [badF]; repeat' split
    all_goals omega
def rightB (s : ByteArray) : Bool := decide (badI s < 0)
theorem right_any (s : ByteArray) (hs : s.size ≤ maxLen) (w : World) : Calls Tryz.prog 69 #[.string s] w fun e w' => e = .returned (.bool (rightB s)) ∧ Below w.heap.size w w' := by
  go_enter Tryz.func69, Tryz.ntmps69
  go_wp2_with (go_at_call 18; refine (bad_any _ hs _).mono ?_; rintro e w' ⟨rfl, hb⟩)
  go_ret
  exact ⟨rfl, hb⟩
theorem info5 : (Tryz.prog.info? 5).map (fun i => (i.zero, i.size, i.bytes)) = some (some (.int .u8 0), 1, 1) := by kernel_rfl
end Go.Proofs.YtejniiehfangkaaGreatDoor
