import Derived.Test.YtejniiehfangkaaGreatDoorSizeW
set_option linter.unusedVariables false
set_option linter.unusedSimpArgs false
namespace Go.Proofs.YtejniiehfangkaaGreatDoor
open Go.RowKit
theorem size_is_bad (s : ByteArray) (hs : s.size ≤ 4294967296) (i : Nat) (hi : i < s.size) (hb : badAt s i = true) (w : World) : Calls Tryz.prog 41 #[.string s, .int .i64 i] w fun e w' => e = .returned (.tuple #[.int .i64 0, .int .i32 0]) ∧ w = w' :=
  (size_any s hs i hi w).mono fun _ _ ⟨a, b⟩ => ⟨a.trans (sizeE_bad s i hb), b⟩
theorem size_is_ok (s : ByteArray) (hs : s.size ≤ 4294967296) (i : Nat) (hi : i < s.size) (hb : badAt s i = false) (w : World) : Calls Tryz.prog 41 #[.string s, .int .i64 i] w fun e w' => e = .returned (.tuple #[.int .i64 (Utf8.decode s i).2, .int .i32 (Utf8.decode s i).1]) ∧ w = w' :=
  (size_any s hs i hi w).mono fun _ _ ⟨a, b⟩ => ⟨a.trans (sizeE_ok s i _ _ ⟨rfl, hb⟩), b⟩
set_option maxHeartbeats 400000 in
theorem bad_ref (s : ByteArray) (hs : s.size ≤ 4294967296) (w : World) : Calls Tryz.prog 23 #[.string s] w fun e w' => e = .returned (.int .i64 (badI s)) ∧ w = w' := by
  go_enter Tryz.func23, Tryz.ntmps23
  go_wp2
  go_loop [3] (fun i => ∃ k g : Nat, k ≤ s.size ∧ i = .int .i64 k ∧ badF s g k = badI s ∧ s.size < k + g) (fun i => s.size - (intOf i).toNat)
  case atStart => exact ⟨0, s.size + 1, by omega, rfl, rfl, by omega⟩
  case round =>
    obtain ⟨k, g, hk, rfl, hc, hg⟩ := hrel
    have HC := Lib.hid hc
    clear hc
    by_cases hp : k < s.size
    · cases hb : badAt s k
      · have hd := dec_in s k hp
        obtain ⟨g', h1, h2⟩ := badF_go s g k hp hg hb
        have HR := Lib.hid h1
        have hwd : (((Utf8.decode s k).2 : Int) == 0) = false := by simp; omega
        have hd1 := hd.1
        have hd2 := hd.2.1
        clear h1 hd
        go_wp2_with (go_at_call 41; refine (size_is_ok s hs k hp hb _).mono ?_; rintro e w' ⟨rfl, rfl⟩)
        go_round
        case rel => exact ⟨k + (Utf8.decode s k).2, g', by omega, by go_num, by rw [← HR.out]; exact HC.out, h2⟩
        case measure => simp [intOf]; omega
      · have HR := Lib.hid (badF_hit s g k hp hg hb)
        go_wp2_with (go_at_call 41; refine (size_is_bad s hs k hp hb _).mono ?_; rintro e w' ⟨rfl, rfl⟩)
        go_ret
        exact ⟨ret_int (by rw [← HC.out, HR.out]), rfl⟩
    · go_wp2
      go_ret
      exact ⟨ret_int (by rw [← HC.out, badF_end s g k hp]), rfl⟩
theorem right_iff (s : ByteArray) : rightB s = (badI s == -1) := by
  have := badF_ge s (s.size + 1) 0
  unfold rightB; unfold badI at *
  rw [Bool.eq_iff_iff]; simp; omega
theorem right_ref (s : ByteArray) (hs : s.size ≤ 4294967296) (w : World) : Calls Tryz.prog 30 #[.string s] w fun e w' => e = .returned (.bool (rightB s)) ∧ w = w' := by
  rw [right_iff]
  go_enter Tryz.func30, Tryz.ntmps30
  go_wp2_with (go_at_call 23; refine (bad_ref _ hs _).mono ?_; rintro e w' ⟨rfl, rfl⟩)
  go_ret
  exact ⟨rfl, rfl⟩
end Go.Proofs.YtejniiehfangkaaGreatDoor
