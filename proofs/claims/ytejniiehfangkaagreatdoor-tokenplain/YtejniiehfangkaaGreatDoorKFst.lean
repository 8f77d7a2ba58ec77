/- What stands first: token.first, all ways. -/
import Derived.Test.YtejniiehfangkaaGreatDoorKFstS
import Derived.Test.YtejniiehfangkaaGreatDoorKFstN
import Derived.Test.YtejniiehfangkaaGreatDoorKFstD
import Derived.Test.YtejniiehfangkaaGreatDoorKFstQ
set_option linter.unusedVariables false
set_option linter.unusedSimpArgs false
namespace Go.Proofs.YtejniiehfangkaaGreatDoor
open Go.RowKit
theorem sgB_is {c : UInt8} (h : sgB c = true) : c.toNat = 33 ∨ c.toNat = 36 ∨ c.toNat = 38 ∨ c.toNat = 40 ∨ c.toNat = 41 ∨ c.toNat = 58 ∨ c.toNat = 61 ∨ c.toNat = 64 ∨ c.toNat = 91 ∨ c.toNat = 93 ∨ c.toNat = 123 ∨ c.toNat = 124 ∨ c.toNat = 125 := by
  unfold sgB at h
  simp only [Bool.or_eq_true, beq_iff_eq] at h
  omega
theorem sgB_not {c : UInt8} (h : ¬ sgB c = true) : c.toNat ≠ 33 ∧ c.toNat ≠ 36 ∧ c.toNat ≠ 38 ∧ c.toNat ≠ 40 ∧ c.toNat ≠ 41 ∧ c.toNat ≠ 58 ∧ c.toNat ≠ 61 ∧ c.toNat ≠ 64 ∧ c.toNat ≠ 91 ∧ c.toNat ≠ 93 ∧ c.toNat ≠ 123 ∧ c.toNat ≠ 124 ∧ c.toNat ≠ 125 := by
  unfold sgB at h
  simp only [Bool.or_eq_true, beq_iff_eq] at h
  omega
theorem dgB_not {c : UInt8} (h : ¬ dgB c = true) : c.toNat < 48 ∨ 57 < c.toNat := by
  unfold dgB isD at h
  simp at h
  omega
set_option maxHeartbeats 1000000 in
theorem first_any (x : ByteArray) (hs : x.size ≤ 1000000) (w : World) (h : LV w) : Calls Tryz.prog 22 #[.string x] w (FsP (fstL x.data.toList) w) := by
  by_cases h0 : 0 < x.size
  · have hl : x.data.toList = x.get! 0 :: x.data.toList.drop 1 := by
      have := drop_cons x 0 h0
      rwa [List.drop_zero] at this
    have hF : fstL x.data.toList = (if sgB (x.get! 0) then .ok 1 [x.get! 0] 1
      else if (x.get! 0).toNat = 46 then (if [46, 46, 46].isPrefixOf x.data.toList then .ok 1 [46, 46, 46] 3 else .no 0)
      else if (x.get! 0).toNat = 45 ∨ dgB (x.get! 0) = true then numL x.data.toList
      else if (x.get! 0).toNat = 34 then (if rw3 x.data.toList then rawL x.data.toList else strL x.data.toList)
      else namL x.data.toList) := by
      generalize x.get! 0 = c at hl
      generalize x.data.toList.drop 1 = t at hl
      rw [hl]
      rfl
    rw [hF]
    clear hF
    by_cases c1 : sgB (x.get! 0) = true
    · rw [if_pos c1]
      have he : Fst.ok 1 [x.get! 0] 1 = asF 1 (x.extract 0 1) true := by
        have e1 : (x.extract 0 1).data.toList = [x.get! 0] := by
          rw [Lib.extract_data, List.drop_zero]
          conv => lhs; rw [hl]
          rfl
        have e2 : (x.extract 0 1).size = 1 := by rw [ByteArray.size_extract]; omega
        show _ = Fst.ok 1 (x.extract 0 1).data.toList (x.extract 0 1).size
        rw [e1, e2]
      rcases sgB_is c1 with hc | hc | hc | hc | hc | hc | hc | hc | hc | hc | hc | hc | hc
      · exact fst_s33 x hs w h h0 hc _ he
      · exact fst_s36 x hs w h h0 hc _ he
      · exact fst_s38 x hs w h h0 hc _ he
      · exact fst_s40 x hs w h h0 hc _ he
      · exact fst_s41 x hs w h h0 hc _ he
      · exact fst_s58 x hs w h h0 hc _ he
      · exact fst_s61 x hs w h h0 hc _ he
      · exact fst_s64 x hs w h h0 hc _ he
      · exact fst_s91 x hs w h h0 hc _ he
      · exact fst_s93 x hs w h h0 hc _ he
      · exact fst_s123 x hs w h h0 hc _ he
      · exact fst_s124 x hs w h h0 hc _ he
      · exact fst_s125 x hs w h h0 hc _ he
    rw [if_neg c1]
    have n1 := sgB_not c1
    by_cases c2 : (x.get! 0).toNat = 46
    · rw [if_pos c2]
      refine fst_p x hs w h h0 c2 _ rfl _ ?_
      show _ = asF 1 ⟨#[46, 46, 46]⟩ ([46, 46, 46].isPrefixOf x.data.toList)
      cases [46, 46, 46].isPrefixOf x.data.toList <;> rfl
    rw [if_neg c2]
    by_cases c3 : (x.get! 0).toNat = 45 ∨ dgB (x.get! 0) = true
    · rw [if_pos c3]
      obtain ⟨hn, hz⟩ := num_as x.data.toList
      rw [← Lib.size_eq] at hz
      have hz2 : (nbS (numL x.data.toList)).size ≤ 1000000 := Nat.le_trans hz hs
      have hcs : (x.get! 0).toNat = 45 ∨ (x.get! 0).toNat = 48 ∨ (x.get! 0).toNat = 49 ∨ (x.get! 0).toNat = 50 ∨ (x.get! 0).toNat = 51 ∨ (x.get! 0).toNat = 52 ∨ (x.get! 0).toNat = 53 ∨ (x.get! 0).toNat = 54 ∨ (x.get! 0).toNat = 55 ∨ (x.get! 0).toNat = 56 ∨ (x.get! 0).toNat = 57 := by
        rcases c3 with c3 | c3
        · exact .inl c3
        · have := dgB_is c3; omega
      rcases hcs with hc | hc | hc | hc | hc | hc | hc | hc | hc | hc | hc
      · exact fst_d45 x hs w h h0 hc _ _ rfl rfl _ hn.symm hz2
      · exact fst_d48 x hs w h h0 hc _ _ rfl rfl _ hn.symm hz2
      · exact fst_d49 x hs w h h0 hc _ _ rfl rfl _ hn.symm hz2
      · exact fst_d50 x hs w h h0 hc _ _ rfl rfl _ hn.symm hz2
      · exact fst_d51 x hs w h h0 hc _ _ rfl rfl _ hn.symm hz2
      · exact fst_d52 x hs w h h0 hc _ _ rfl rfl _ hn.symm hz2
      · exact fst_d53 x hs w h h0 hc _ _ rfl rfl _ hn.symm hz2
      · exact fst_d54 x hs w h h0 hc _ _ rfl rfl _ hn.symm hz2
      · exact fst_d55 x hs w h h0 hc _ _ rfl rfl _ hn.symm hz2
      · exact fst_d56 x hs w h h0 hc _ _ rfl rfl _ hn.symm hz2
      · exact fst_d57 x hs w h h0 hc _ _ rfl rfl _ hn.symm hz2
    rw [if_neg c3]
    have n3 : (x.get! 0).toNat ≠ 45 ∧ ((x.get! 0).toNat < 48 ∨ 57 < (x.get! 0).toNat) := ⟨fun e => c3 (.inl e), dgB_not fun e => c3 (.inr e)⟩
    by_cases c4 : (x.get! 0).toNat = 34
    · rw [if_pos c4]
      cases c5 : rw3 x.data.toList
      · rw [if_neg (by simp)]
        unfold strL
        rw [ba_eq]
        have hU : unqE x = .returned (.tuple #[.string ⟨(unq x).1.toArray⟩, .int .i64 ((unq x).2.1 : Nat), .int .i64 ((unq x).2.2 : Nat)]) := rfl
        by_cases c6 : (unq x).2.2 = 0
        · rw [if_pos c6]
          refine fst_qt x hs w h h0 c4 c5 _ _ _ hU (by rw [c6]; rfl) _ ?_
          simp
        · rw [if_neg c6]
          exact fst_qf x hs w h h0 c4 c5 _ _ _ hU (by simp; omega) _ rfl
      · rw [if_pos rfl]
        exact fst_r x hs w h h0 c4 c5 _ rfl
    rw [if_neg c4]
    have hA : (x.extract 0 (tk nmB x.data.toList)).data.toList = x.data.toList.take (tk nmB x.data.toList) := by rw [Lib.extract_data, List.drop_zero, Nat.sub_zero]
    have hk := tk_le nmB x.data.toList
    have hk2 := hk
    rw [← Lib.size_eq] at hk2
    have hAs : (x.extract 0 (tk nmB x.data.toList)).size = tk nmB x.data.toList := by rw [ByteArray.size_extract]; omega
    refine fst_n x hs w h h0 ?_ _ rfl (by rw [hAs]; omega) (decide (0 < tk nmB x.data.toList)) ?_ _ ?_
    · intro v hv
      rw [get_bang x 0 h0] at *
      simp only [List.mem_cons, List.not_mem_nil, or_false] at hv
      rw [beq_eq_false_iff_ne]
      omega
    · rw [Lib.toList_data, hA, Bool.eq_iff_iff]
      simp only [List.isEmpty_iff, List.take_eq_nil_iff, Bool.not_eq_true', decide_eq_false_iff_not]
      constructor
      · rintro (e | e)
        · omega
        · rw [e]; simp [tk]
      · intro e; exact .inl (by omega)
    · unfold namL asF
      rw [hA, hAs]
      by_cases e : tk nmB x.data.toList = 0
      · rw [if_pos e, if_neg (by simp [e])]
      · rw [if_neg e, if_pos (by simp; omega)]
  · obtain rfl : x = ⟨#[]⟩ := ByteArray.ext (Array.eq_empty_of_size_eq_zero (by show x.size = 0; omega))
    exact fst_empty w
end Go.Proofs.YtejniiehfangkaaGreatDoor
