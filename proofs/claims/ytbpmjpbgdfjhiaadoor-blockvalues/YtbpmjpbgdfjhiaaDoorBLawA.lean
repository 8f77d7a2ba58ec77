/- The walks of BlockIndents, BlockValues and BlockRaws. -/
import Derived.Test.YtbpmjpbgdfjhiaaDoorBOpen
set_option linter.unusedVariables false
set_option linter.unusedSimpArgs false
namespace Go.Proofs.YtbpmjpbgdfjhiaaDoor.BlockIndents
open Go.RowKit
set_option maxHeartbeats 400000 in
set_option maxRecDepth 100000 in
theorem walk (W : World) (hM : MaxL W) (A : Option Addr) (n c : Nat) (ls : List ByteArray) (h : IsStrs W A n ls) : Calls Tryd.prog 3 #[.slice A n c] W fun e W' => e = .returned (.bool true) ∧ Below W.heap.size W W' := by
  obtain ⟨hA, hn, hs⟩ := h
  have hl : ls.length = n := by have := hA.1; simpa using this
  unfold maxLen at hn
  have HM := Lib.hid hM
  have HL := Lib.hid hl
  have HS := Lib.hid hs
  have HA := Lib.hid hA
  clear hM hl hs hA
  by_cases h20 : 20 < n
  · go_enter Tryd.func3, Tryd.ntmps3
    go_wp2_with fail
    refine (awake_any _ HM.out).mono ?_
    rintro e w1 ⟨rfl, hb1⟩
    go_wp2_with fail
    refine (awake_any _ (HM.out.below hb1 (Nat.le_refl _))).mono ?_
    rintro e w2 ⟨rfl, hb2⟩
    go_wp2
    go_ret
    exact ⟨rfl, Below_next hb1 hb2⟩
  · go_enter Tryd.func3, Tryd.ntmps3
    go_wp2_with fail
    refine (awake_any _ HM.out).mono ?_
    rintro e w1 ⟨rfl, hb1⟩
    have HA1 := Lib.hid (HA.out.below hb1 (Nat.le_refl _))
    go_wp2
    go_loop [3] (fun i => ∃ k : Nat, k ≤ n ∧ i = .int .i64 k ∧ ∀ j x, j < k → ls[j]? = some x → x.size ≤ 100) (fun i => n - (intOf i).toNat)
    case atStart => exact ⟨0, Nat.zero_le _, rfl, fun j x hj => by omega⟩
    case round =>
      obtain ⟨k, hk, rfl, hall⟩ := hrel
      have HALL := Lib.hid hall
      clear hall
      by_cases hlt : k < n
      · obtain ⟨x, hx⟩ : ∃ x, ls[k]? = some x := ⟨ls[k]'(by have := HL.out; omega), List.getElem?_eq_getElem _⟩
        have hxs := HS.out x (List.mem_of_getElem? hx)
        unfold maxLen at hxs
        obtain ⟨ad, rfl, hadb, hcell⟩ := HA1.out.2 (by omega)
        have cx := hcell k (.string x) (by simp [hx])
        by_cases h100 : 100 < x.size
        · clear hx hcell
          go_wp2
          go_ret
          exact ⟨rfl, hb1⟩
        · have HN : Hid (∀ j y, j < k + 1 → ls[j]? = some y → y.size ≤ 100) := Lib.hid fun j y hj hy => by
            rcases Nat.lt_or_ge j k with h | h
            · exact HALL.out j y h hy
            · obtain rfl : j = k := by omega
              rw [hx] at hy; cases hy; omega
          clear hx hcell
          go_wp2
          exact ⟨⟨k + 1, by omega, by go_num, HN.out⟩, by simp [intOf]; omega⟩
      · obtain rfl : k = n := by omega
        have hsz : ∀ x ∈ ls, x.size ≤ 4294967296 := fun x hx => by
          obtain ⟨j, hj, rfl⟩ := List.mem_iff_getElem.1 hx
          have := HALL.out j _ (by have := HL.out; omega) (List.getElem?_eq_getElem hj)
          omega
        have h1 := indent_any A k c ls w1 (by omega) HA1.out hsz
        have h2 := fun w' hb => indent_ref A k c ls w' (by omega) (HA1.out.below hb (Nat.le_refl _)) hsz
        generalize ind (bts ls) = d at *
        have H1 := Lib.hid h1
        have H2 := Lib.hid h2
        clear h1 h2
        go_wp2_with fail
        refine H1.out.mono ?_
        rintro e w2 ⟨rfl, hb2⟩
        go_wp2_with fail
        refine (H2.out _ hb2).mono ?_
        rintro e w3 ⟨rfl, hb3⟩
        go_wp2
        go_ret
        exact ⟨rfl, Below_next (Below_next hb1 hb2) hb3⟩
end Go.Proofs.YtbpmjpbgdfjhiaaDoor.BlockIndents
namespace Go.Proofs.YtbpmjpbgdfjhiaaDoor.BlockValues
open Go.RowKit
set_option maxHeartbeats 400000 in
set_option maxRecDepth 100000 in
theorem walk (W : World) (hM : MaxL W) (s : ByteArray) (hs : s.size ≤ maxLen) : Calls Tryd.prog 4 #[.string s] W fun e W' => e = .returned (.bool true) ∧ Below W.heap.size W W' := by
  unfold maxLen at hs
  have HM := Lib.hid hM
  clear hM
  by_cases hl : 400 < s.size
  · go_enter Tryd.func4, Tryd.ntmps4
    go_wp2_with fail
    refine (awake_any _ HM.out).mono ?_
    rintro e w1 ⟨rfl, hb1⟩
    go_wp2_with fail
    refine (awake_any _ (HM.out.below hb1 (Nat.le_refl _))).mono ?_
    rintro e w2 ⟨rfl, hb2⟩
    go_wp2
    go_ret
    exact ⟨rfl, Below_next hb1 hb2⟩
  · have h1 := fun w hm => value_any s (by omega) w hm
    have h2 := fun w => value_ref s (by omega) w
    generalize (⟨(valM s.data.toList).toArray⟩ : ByteArray) = v at *
    have H1 := Lib.hid h1
    have H2 := Lib.hid h2
    clear h1 h2
    go_enter Tryd.func4, Tryd.ntmps4
    go_wp2_with fail
    refine (awake_any _ HM.out).mono ?_
    rintro e w1 ⟨rfl, hb1⟩
    go_wp2_with fail
    refine (H1.out _ (HM.out.below hb1 (Nat.le_refl _))).mono ?_
    rintro e w2 ⟨rfl, hb2⟩
    go_wp2_with fail
    refine (H2.out _).mono ?_
    rintro e w3 ⟨rfl, hb3⟩
    go_wp2
    go_ret
    exact ⟨rfl, Below_next (Below_next hb1 hb2) hb3⟩
end Go.Proofs.YtbpmjpbgdfjhiaaDoor.BlockValues
namespace Go.Proofs.YtbpmjpbgdfjhiaaDoor.BlockRaws
open Go.RowKit
set_option maxHeartbeats 400000 in
set_option maxRecDepth 100000 in
theorem walk (W : World) (hM : MaxL W) (s : ByteArray) (hs : s.size ≤ maxLen) : Calls Tryd.prog 5 #[.string s] W fun e W' => e = .returned (.bool true) ∧ Below W.heap.size W W' := by
  unfold maxLen at hs
  have HM := Lib.hid hM
  clear hM
  by_cases hl : 400 < s.size
  · go_enter Tryd.func5, Tryd.ntmps5
    go_wp2_with fail
    refine (awake_any _ HM.out).mono ?_
    rintro e w1 ⟨rfl, hb1⟩
    go_wp2_with fail
    refine (awake_any _ (HM.out.below hb1 (Nat.le_refl _))).mono ?_
    rintro e w2 ⟨rfl, hb2⟩
    go_wp2
    go_ret
    exact ⟨rfl, Below_next hb1 hb2⟩
  · have h1 := fun w hm => raw_any s (by omega) w hm
    have h2 := fun w => raw_ref s (by omega) w
    have hrs := rawS_size s
    have hv : rawOk s.data.toList = true → ∀ w, MaxL w → Calls Tryd.prog 10 #[.string (rawS s.data.toList)] w fun e w' => e = .returned (.string s) ∧ Below w.heap.size w w' := fun h w hm => by
      have := value_any (rawS s.data.toList) (by omega) w hm
      rw [rawS_data _ h, raw_back _ h] at this
      have e : (⟨s.data.toList.toArray⟩ : ByteArray) = s := by simp
      rw [e] at this
      exact this
    have e1 := rawE_yes s.data.toList
    have e2 := rawE_no s.data.toList
    generalize rawS s.data.toList = R at *
    generalize rawE s.data.toList = E at *
    generalize rawOk s.data.toList = ok at *
    have H1 := Lib.hid h1
    have H2 := Lib.hid h2
    have HV := Lib.hid hv
    clear h1 h2 hv
    cases ok
    · obtain rfl := e2 rfl
      clear e1 e2
      go_enter Tryd.func5, Tryd.ntmps5
      go_wp2_with fail
      refine (awake_any _ HM.out).mono ?_
      rintro e w1 ⟨rfl, hb1⟩
      go_wp2_with fail
      refine (H1.out _ (HM.out.below hb1 (Nat.le_refl _))).mono ?_
      rintro e w2 ⟨rfl, hb2⟩
      go_wp2_with fail
      refine (H2.out _).mono ?_
      rintro e w3 ⟨rfl, hb3⟩
      go_wp2
      go_ret
      exact ⟨rfl, Below_next (Below_next hb1 hb2) hb3⟩
    · obtain rfl := e1 rfl
      clear e1 e2
      go_enter Tryd.func5, Tryd.ntmps5
      go_wp2_with fail
      refine (awake_any _ HM.out).mono ?_
      rintro e w1 ⟨rfl, hb1⟩
      go_wp2_with fail
      refine (H1.out _ (HM.out.below hb1 (Nat.le_refl _))).mono ?_
      rintro e w2 ⟨rfl, hb2⟩
      go_wp2_with fail
      refine (H2.out _).mono ?_
      rintro e w3 ⟨rfl, hb3⟩
      have hb13 := Below_next (Below_next hb1 hb2) hb3
      go_wp2_with fail
      refine (HV.out (by trivial) _ (HM.out.below hb13 (Nat.le_refl _))).mono ?_
      rintro e w4 ⟨rfl, hb4⟩
      go_wp2
      go_ret
      exact ⟨rfl, Below_next hb13 hb4⟩
end Go.Proofs.YtbpmjpbgdfjhiaaDoor.BlockRaws
