import Derived.Test.YtbpmjpbgdfjhiaaDoorBLinA
set_option linter.unusedVariables false
set_option linter.unusedSimpArgs false
namespace Go.Proofs.YtbpmjpbgdfjhiaaDoor
open Go.RowKit
theorem rel_put0 {w W w3 : World} {x : ByteArray} {v v' : Value} {ls : List ByteArray} {o : Obj} (hown : W.ownsRow w.heap.size 9 1 v ls.length (ls.map Value.string)) (hb : Below w.heap.size w W) (hsz : w.heap.size ≤ W.heap.size)
    (hown' : w3.ownsRow w.heap.size 9 1 v' (ls.length + 1) (ls.map Value.string ++ [.string x])) (hg : (W.alloc o).grownBy w3 v.ownBlock) :
    w3.ownsRow w.heap.size 9 1 v' (ls ++ [x]).length ((ls ++ [x]).map Value.string) ∧ Below w.heap.size w w3 ∧ w.heap.size ≤ w3.heap.size := by
  have hne : ∀ j, v.ownBlock = some j → w.heap.size ≤ j := fun j hj => (hown.lt j hj).1
  have h3 := (hb.alloc hsz o).grown hg (by simp; omega) hne
  exact ⟨by simpa using hown', h3, h3.size⟩
set_option maxHeartbeats 1000000 in
set_option maxRecDepth 100000 in
theorem lines_ref (s : ByteArray) (hs : s.size ≤ 4294967296) (w : World) : Calls Tryd.prog 20 #[.string s] w fun e w' => ∃ v, e = .returned v ∧ w'.ownsRow w.heap.size 9 1 v (linesFrom s 0 0).length ((linesFrom s 0 0).map Value.string) ∧ Below w.heap.size w w' := by
  obtain ⟨i0, hi, hz0, hz1, hz2⟩ := info_parts info9
  go_enter Tryd.func20, Tryd.ntmps20
  go_wp2
  go_loopw [3, 4, 5] (fun v f i wr => ∃ (k fr : Nat) (ls : List ByteArray), f = .int .i64 fr ∧ i = .int .i64 k ∧ fr ≤ k ∧ k ≤ s.size ∧ ls.length ≤ k ∧ wr.ownsRow w.heap.size 9 1 v ls.length (ls.map Value.string) ∧ Below w.heap.size w wr ∧ w.heap.size ≤ wr.heap.size ∧
      (k < s.size → (s.get! k).toNat = 10 → k = 0 ∨ (s.get! (k - 1)).toNat ≠ 13) ∧ ls ++ linesFrom s fr k = linesFrom s 0 0) (fun _ _ i _ => s.size - (intOf i).toNat)
  case atStart => exact ⟨0, 0, [], rfl, rfl, by omega, by omega, by simp, World.ownsRow_nil _ _ _ _, Below.refl _ _, Nat.le_refl _, fun _ _ => .inl rfl, rfl⟩
  case round =>
    obtain ⟨k, fr, ls, rfl, rfl, hfp, hps, hll, hown, hbel, hsz, hprev, hc⟩ := hrel
    have HC := Lib.hid hc
    have HP := Lib.hid hprev
    clear hc hprev
    by_cases hp : k < s.size
    · have hg : (s.get! k).toNat = s[k].toNat := by rw [get_bang s k hp]
      have HG := Lib.hid hg
      clear hg
      by_cases h13 : s[k].toNat = 13
      · have hz1' : ((s[k].toNat : Int) != 10) = true := by rw [h13]; rfl
        have hz2' : ((s[k].toNat : Int) != 13) = false := by rw [h13]; rfl
        have hz3' : ((s[k].toNat : Int) == 13) = true := by rw [h13]; rfl
        have HR := Lib.hid (lf_cut s fr k hp (.inl (HG.out.trans h13)))
        have HG13 := Lib.hid (HG.out.trans h13)
        clear h13
        by_cases hn : k + 1 < s.size
        · have hlt : decide ((k : Int) < (s.size : Int) - 1) = true := by simp; omega
          have hg1 : (s.get! (k + 1)).toNat = s[k + 1].toNat := by rw [get_bang s (k + 1) hn]
          have HG1 := Lib.hid hg1
          clear hg1
          by_cases h10 : s[k + 1].toNat = 10
          · have hy : ((s[k + 1].toNat : Int) == 10) = true := by rw [h10]; rfl
            have HS := Lib.hid (lf_skip s (k + 1) (k + 1) hn (HG1.out.trans h10) (by omega) (by simpa using HG13.out))
            have HG10 := Lib.hid (HG1.out.trans h10)
            clear h10
            go_wp2_with (first | (at_builtin; refine wpList_append_own _ rfl _ _ 22 rfl w.heap.size 9 i0 (.string ⟨#[]⟩) 1 16 Tryd.underlying22 hi hz0 hz1 hz2 rfl (by decide) _ _ _ rfl (hown.alloc _) ⟨wr.heap.size, 0, none⟩ 1 1 [.string (s.extract fr k)] rfl rfl (cell_one_new _ _ _) (by simp [Value.oneCell']) (by unfold maxLen; omega) (by omega) (by simp; omega) ?_; intro v' w3 hown3 hgrow _))
            obtain ⟨r2, r3, r4⟩ := rel_put0 hown hbel hsz hown3 hgrow
            exact ⟨⟨k + 2, k + 2, ls ++ [s.extract fr k], by go_num, by go_num, by omega, by omega, by simp only [List.length_append, List.length_singleton]; omega, r2, r3, r4, fun _ _ => .inr (by rw [show k + 2 - 1 = k + 1 by omega, HG10.out]; decide), by rw [← HC.out, HR.out, HS.out]; simp⟩, by simp [intOf]; omega⟩
          · have hy : ((s[k + 1].toNat : Int) == 10) = false := by simp; omega
            have HN := Lib.hid (fun e : (s.get! (k + 1)).toNat = 10 => h10 (HG1.out.symm.trans e))
            clear h10
            go_wp2_with (first | (at_builtin; refine wpList_append_own _ rfl _ _ 22 rfl w.heap.size 9 i0 (.string ⟨#[]⟩) 1 16 Tryd.underlying22 hi hz0 hz1 hz2 rfl (by decide) _ _ _ rfl (hown.alloc _) ⟨wr.heap.size, 0, none⟩ 1 1 [.string (s.extract fr k)] rfl rfl (cell_one_new _ _ _) (by simp [Value.oneCell']) (by unfold maxLen; omega) (by omega) (by simp; omega) ?_; intro v' w3 hown3 hgrow _))
            obtain ⟨r2, r3, r4⟩ := rel_put0 hown hbel hsz hown3 hgrow
            exact ⟨⟨k + 1, k + 1, ls ++ [s.extract fr k], by go_num, by go_num, by omega, by omega, by simp only [List.length_append, List.length_singleton]; omega, r2, r3, r4, fun _ e => (HN.out e).elim, by rw [← HC.out, HR.out]; simp⟩, by simp [intOf]; omega⟩
        · have hlt : decide ((k : Int) < (s.size : Int) - 1) = false := by simp; omega
          go_wp2_with (first | (at_builtin; refine wpList_append_own _ rfl _ _ 22 rfl w.heap.size 9 i0 (.string ⟨#[]⟩) 1 16 Tryd.underlying22 hi hz0 hz1 hz2 rfl (by decide) _ _ _ rfl (hown.alloc _) ⟨wr.heap.size, 0, none⟩ 1 1 [.string (s.extract fr k)] rfl rfl (cell_one_new _ _ _) (by simp [Value.oneCell']) (by unfold maxLen; omega) (by omega) (by simp; omega) ?_; intro v' w3 hown3 hgrow _))
          obtain ⟨r2, r3, r4⟩ := rel_put0 hown hbel hsz hown3 hgrow
          exact ⟨⟨k + 1, k + 1, ls ++ [s.extract fr k], by go_num, by go_num, by omega, by omega, by simp only [List.length_append, List.length_singleton]; omega, r2, r3, r4, fun e => absurd e hn, by rw [← HC.out, HR.out]; simp⟩, by simp [intOf]; omega⟩
      · by_cases h10 : s[k].toNat = 10
        · have hz1' : ((s[k].toNat : Int) != 10) = false := by rw [h10]; rfl
          have hz3' : ((s[k].toNat : Int) == 13) = false := by rw [h10]; rfl
          have HR := Lib.hid (lf_cut s fr k hp (.inr ⟨HG.out.trans h10, by have := HP.out hp (HG.out.trans h10); exact this⟩))
          have HG10 := Lib.hid (HG.out.trans h10)
          clear h10 h13
          go_wp2_with (first | (at_builtin; refine wpList_append_own _ rfl _ _ 22 rfl w.heap.size 9 i0 (.string ⟨#[]⟩) 1 16 Tryd.underlying22 hi hz0 hz1 hz2 rfl (by decide) _ _ _ rfl (hown.alloc _) ⟨wr.heap.size, 0, none⟩ 1 1 [.string (s.extract fr k)] rfl rfl (cell_one_new _ _ _) (by simp [Value.oneCell']) (by unfold maxLen; omega) (by omega) (by simp; omega) ?_; intro v' w3 hown3 hgrow _))
          obtain ⟨r2, r3, r4⟩ := rel_put0 hown hbel hsz hown3 hgrow
          exact ⟨⟨k + 1, k + 1, ls ++ [s.extract fr k], by go_num, by go_num, by omega, by omega, by simp only [List.length_append, List.length_singleton]; omega, r2, r3, r4, fun _ _ => .inr (by rw [Nat.add_sub_cancel, HG10.out]; decide), by rw [← HC.out, HR.out]; simp⟩, by simp [intOf]; omega⟩
        · have hz1' : ((s[k].toNat : Int) != 10) = true := by rw [bne_iff_ne]; omega
          have hz2' : ((s[k].toNat : Int) != 13) = true := by rw [bne_iff_ne]; omega
          have HR := Lib.hid (lf_one s fr k hp (by rw [HG.out]; exact h13) (by rw [HG.out]; exact h10))
          have HN := Lib.hid (fun e : (s.get! k).toNat = 13 => h13 (HG.out.symm.trans e))
          clear h10 h13
          go_wp2
          exact ⟨⟨k + 1, fr, ls, rfl, by go_num, by omega, by omega, by omega, hown, hbel, hsz, fun _ _ => .inr (by rw [Nat.add_sub_cancel]; exact HN.out), by rw [← HC.out, HR.out]⟩, by simp [intOf]; omega⟩
    · have HR := Lib.hid (lf_end s fr k hp)
      go_wp2_with (first | (at_builtin; refine wpList_append_own _ rfl _ _ 22 rfl w.heap.size 9 i0 (.string ⟨#[]⟩) 1 16 Tryd.underlying22 hi hz0 hz1 hz2 rfl (by decide) _ _ _ rfl (hown.alloc _) ⟨wr.heap.size, 0, none⟩ 1 1 [.string (s.extract fr s.size)] rfl rfl (cell_one_new _ _ _) (by simp [Value.oneCell']) (by unfold maxLen; omega) (by omega) (by simp; omega) ?_; intro v' w3 hown3 hgrow _))
      go_ret
      obtain ⟨r2, r3, r4⟩ := rel_put0 hown hbel hsz hown3 hgrow
      refine ⟨_, rfl, ?_, r3⟩
      rw [← HC.out, HR.out]
      exact r2
end Go.Proofs.YtbpmjpbgdfjhiaaDoor
