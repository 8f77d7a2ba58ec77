/- The walk of BlockClean. -/
import Derived.Test.YtbpmjpbgdfjhiaaDoorBOpen
set_option linter.unusedVariables false
set_option linter.unusedSimpArgs false
namespace Go.Proofs.YtbpmjpbgdfjhiaaDoor.BlockClean
open Go.RowKit
theorem ins_at (b : List UInt8) (s : ByteArray) (k : Nat) (h : k < s.size) : insL b (s.data.toList.drop k) = s[k] :: (if s[k].toNat = 10 ∨ (s[k].toNat = 13 ∧ s.data.toList[k + 1]? ≠ some 10) then b ++ insL b (s.data.toList.drop (k + 1)) else insL b (s.data.toList.drop (k + 1))) := by
  rw [drop_at s k h, insL, List.head?_drop]
theorem next_10 (s : ByteArray) (k : Nat) (h : k < s.size) : s.data.toList[k]? = some 10 ↔ s[k].toNat = 10 := by
  rw [byte_at s k h]
  constructor
  · intro e; rw [Option.some.inj e]; rfl
  · intro e; rw [show s[k] = 10 from UInt8.toNat_inj.1 e]
theorem next_no (s : ByteArray) (k : Nat) (h : ¬ k < s.size) : s.data.toList[k]? ≠ some 10 := by
  rw [List.getElem?_eq_none (by rw [← Lib.size_eq]; omega)]; simp
theorem spaces (k : Nat) : ∀ c ∈ List.replicate k (32 : UInt8), bl c = true := fun c hc => by rw [(List.mem_replicate.1 hc).2]; rfl
theorem first_of (V : ByteArray) (h : 0 < V.size) (a : UInt8) (ha : V.data.toList.head? = some a) : V[0] = a := by
  have := byte_at V 0 h
  rw [List.head?_eq_getElem?] at ha
  rw [this] at ha; exact Option.some.inj ha
theorem last_of (V : ByteArray) (h : 0 < V.size) (a : UInt8) (ha : V.data.toList.getLast? = some a) : V[V.size - 1]'(by omega) = a := by
  rw [last_byte V h] at ha; exact Option.some.inj ha
set_option maxHeartbeats 2000000 in
set_option maxRecDepth 100000 in
theorem walk (W : World) (hM : MaxL W) (s : ByteArray) (hs : s.size ≤ maxLen) (z : Int) (hz : (Lit.int .u8 z).wf = true) : Calls Tryd.prog 6 #[.string s, .int .u8 z] W fun e W' => e = .returned (.bool true) ∧ Below W.heap.size W W' := by
  unfold maxLen at hs
  have hz2 : 0 ≤ z ∧ z ≤ 255 := bounds_u8 hz
  obtain ⟨hz0, hz255⟩ := hz2
  have HM := Lib.hid hM
  clear hM hz
  by_cases hl : 400 < s.size
  · go_enter Tryd.func6, Tryd.ntmps6
    go_wp2_with fail
    refine (awake_any _ HM.out).mono ?_
    rintro e w1 ⟨rfl, hb1⟩
    go_wp2_with fail
    refine (awake_any _ (HM.out.below hb1 (Nat.le_refl _))).mono ?_
    rintro e w2 ⟨rfl, hb2⟩
    go_wp2
    go_ret
    exact ⟨rfl, Below_next hb1 hb2⟩
  · have hn : (⟨#[10]⟩ ++ s : ByteArray).size = s.size + 1 := by
      rw [Lib.size_eq, app_data, List.length_append, ← Lib.size_eq s]; show 1 + s.size = _; omega
    have hd : (⟨#[10]⟩ ++ s : ByteArray).data.toList = 10 :: s.data.toList := by rw [app_data]; rfl
    have h1 := fun w hm => value_any (⟨#[10]⟩ ++ s) (by omega) w hm
    have hve := val_ends (⟨#[10]⟩ ++ s : ByteArray).data.toList
    have hvm := fun (k : Nat) => val_more (List.replicate k 32) s.data.toList (spaces k)
    have hvl := val_len (turn escL rowL (⟨#[10]⟩ ++ s : ByteArray).data.toList)
    have hvt := turn_len escL rowL (⟨#[10]⟩ ++ s : ByteArray).data.toList (by decide) (by decide)
    change (valM _).length ≤ _ at hvl
    rw [← Lib.size_eq] at hvt
    rw [← hd] at hvm
    obtain ⟨V, hV⟩ : ∃ V : ByteArray, V.data.toList = valM (⟨#[10]⟩ ++ s : ByteArray).data.toList := ⟨⟨(valM (⟨#[10]⟩ ++ s : ByteArray).data.toList).toArray⟩, by simp⟩
    rw [← hV] at h1 hve hvm hvl
    have e1 : (⟨V.data.toList.toArray⟩ : ByteArray) = V := by simp
    rw [e1] at h1
    rw [← Lib.size_eq] at hvl
    have hVs : V.size ≤ 4 * (s.size + 1) + 1 := by omega
    have hout : ∀ (k : Nat) (O : ByteArray), O.size ≤ 1000000 → O.data.toList = 10 :: (List.replicate k 32 ++ insL (List.replicate k 32) s.data.toList) → ∀ w, MaxL w → Calls Tryd.prog 10 #[.string O] w fun e w' => e = .returned (.string V) ∧ Below w.heap.size w w' := fun k O hO hOd w hm => by
      have := value_any O hO w hm
      rw [hOd, hvm k, e1] at this
      exact this
    have H1 := Lib.hid h1
    have HVE := Lib.hid hve
    have HOUT := Lib.hid hout
    clear h1 hve hvm hvl hvt hV e1 hd hn hout
    by_cases hV0 : V.size = 0
    · obtain rfl := no_bytes V hV0
      clear hV0
      go_enter Tryd.func6, Tryd.ntmps6
      go_wp2_with fail
      refine (awake_any _ HM.out).mono ?_
      rintro e w1 ⟨rfl, hb1⟩
      go_wp2_with fail
      refine (H1.out _ (HM.out.below hb1 (Nat.le_refl _))).mono ?_
      rintro e w2 ⟨rfl, hb2⟩
      go_wp2
      go_ret
      exact ⟨rfl, Below_next hb1 hb2⟩
    · obtain ⟨hem, hnn⟩ := some_bytes V hV0
      obtain ⟨a, b, ha, hb, ha10, hb10, hb13⟩ := HVE.out hnn
      have hVp : 0 < V.size := by omega
      have f0 := first_of V hVp a ha
      have f1 := last_of V hVp b hb
      have g1 : (V[0]'hVp).toNat ≠ 10 := by rw [f0]; exact ha10
      have g2 : (V[V.size - 1]'(by omega)).toNat ≠ 10 := by rw [f1]; exact hb10
      have g3 : (V[V.size - 1]'(by omega)).toNat ≠ 13 := by rw [f1]; exact hb13
      have q1 : (((V[0]'hVp).toNat : Int) != 10) = true := by rw [bne_iff_ne]; omega
      have q2 : (((V[V.size - 1]'(by omega)).toNat : Int) != 10) = true := by rw [bne_iff_ne]; omega
      have q3 : (((V[V.size - 1]'(by omega)).toNat : Int) != 13) = true := by rw [bne_iff_ne]; omega
      clear f0 f1 ha hb ha10 hb10 hb13 g1 g2 g3 hnn hV0
      go_enter Tryd.func6, Tryd.ntmps6
      go_wp2_with fail
      refine (awake_any _ HM.out).mono ?_
      rintro e w1 ⟨rfl, hb1⟩
      go_wp2_with fail
      refine (H1.out _ (HM.out.below hb1 (Nat.le_refl _))).mono ?_
      rintro e w2 ⟨rfl, hb2⟩
      have hB2 := Below_next hb1 hb2
      go_wp2_with fail
      go_loop [6, 7] (fun t i => ∃ (k : Nat) (B : ByteArray), (k : Int) ≤ z % 20 ∧ i = .int .i64 k ∧ t = .string B ∧ B.data.toList = List.replicate k 32) (fun _ i => 20 - (intOf i).toNat)
      case atStart => exact ⟨0, ⟨#[]⟩, by omega, rfl, rfl, rfl⟩
      case round =>
        obtain ⟨k, B, hk, rfl, rfl, hB⟩ := hrel
        have HB := Lib.hid hB
        have hBs : B.size = k := by rw [Lib.size_eq, hB, List.length_replicate]
        clear hB
        by_cases hlt : (k : Int) < z % 20
        · go_wp2
          refine ⟨⟨k + 1, B ++ ⟨#[32]⟩, by omega, by go_num, rfl, ?_⟩, by simp [intOf]; omega⟩
          rw [app_data, HB.out, List.replicate_succ']
        · have hk20 : k < 20 := by omega
          have HBs := Lib.hid hBs
          obtain ⟨bL, hbL⟩ : ∃ l, l = List.replicate k (32 : UInt8) := ⟨_, rfl⟩
          have HO := HOUT.out k
          rw [← hbL] at HB HO
          have HOK := Lib.hid HO
          clear hbL HO
          go_wp2_with fail
          go_loop [8, 9] (fun t i => ∃ (j : Nat) (O : ByteArray), j ≤ s.size ∧ i = .int .i64 j ∧ t = .string O ∧ O.size ≤ 20 + 20 * j ∧ O.data.toList ++ insL bL (s.data.toList.drop j) = 10 :: (bL ++ insL bL s.data.toList)) (fun _ i => s.size - (intOf i).toNat)
          case atStart =>
            refine ⟨0, ⟨#[10]⟩ ++ B, by omega, rfl, rfl, ?_, ?_⟩
            · rw [Lib.size_eq, app_data, List.length_append, ← Lib.size_eq B]; show 1 + B.size ≤ _; omega
            · rw [app_data, HB.out]; simp
          case round =>
            obtain ⟨j, O, hj, rfl, rfl, hO, hc⟩ := hrel
            have HC := Lib.hid hc
            clear hc
            by_cases hlt2 : j < s.size
            · have HI := Lib.hid (ins_at bL s j hlt2)
              have HE := Lib.hid (ext_one s j hlt2)
              have hs1 : (s.extract j (j + 1)).size = 1 := by rw [Lib.size_eq, HE.out]; rfl
              have hsO : (O ++ s.extract j (j + 1)).size = O.size + 1 := by rw [ByteArray.size_append, hs1]
              have hsB : (O ++ s.extract j (j + 1) ++ B).size = O.size + 1 + k := by rw [ByteArray.size_append, hsO, HBs.out]
              have HsO := Lib.hid hsO
              have HsB := Lib.hid hsB
              clear hs1 hsO hsB
              have yes : (s[j].toNat = 10 ∨ (s[j].toNat = 13 ∧ s.data.toList[j + 1]? ≠ some 10)) → (O ++ s.extract j (j + 1) ++ B).data.toList ++ insL bL (s.data.toList.drop (j + 1)) = 10 :: (bL ++ insL bL s.data.toList) := fun h => by
                rw [← HC.out, HI.out, if_pos h, app_data, app_data, HE.out, HB.out]; simp
              have no : ¬ (s[j].toNat = 10 ∨ (s[j].toNat = 13 ∧ s.data.toList[j + 1]? ≠ some 10)) → (O ++ s.extract j (j + 1)).data.toList ++ insL bL (s.data.toList.drop (j + 1)) = 10 :: (bL ++ insL bL s.data.toList) := fun h => by
                rw [← HC.out, HI.out, if_neg h, app_data, HE.out]; simp
              have YES := Lib.hid yes
              have NO := Lib.hid no
              clear yes no
              by_cases h10 : s[j].toNat = 10
              · have HY := Lib.hid (YES.out (.inl h10))
                have d1 : ((s[j].toNat : Int) == 10) = true := by rw [h10]; rfl
                clear h10
                go_wp2
                exact ⟨⟨j + 1, _, by omega, by go_num, rfl, by rw [HsB.out]; omega, HY.out⟩, by simp [intOf]; omega⟩
              · have d1 : ((s[j].toNat : Int) == 10) = false := by simp; omega
                by_cases h13 : s[j].toNat = 13
                · have d2 : ((s[j].toNat : Int) == 13) = true := by rw [h13]; rfl
                  by_cases hn : j + 1 < s.size
                  · by_cases hn10 : s[j + 1].toNat = 10
                    · have HY := Lib.hid (NO.out (by rw [Ne, (next_10 s (j + 1) hn)]; omega))
                      have d3 : ((s[j + 1].toNat : Int) == 10) = true := by rw [hn10]; rfl
                      clear h10 h13 hn10
                      go_wp2
                      exact ⟨⟨j + 1, _, by omega, by go_num, rfl, by rw [HsO.out]; omega, HY.out⟩, by simp [intOf]; omega⟩
                    · have HY := Lib.hid (YES.out (.inr ⟨h13, by rw [Ne, (next_10 s (j + 1) hn)]; exact hn10⟩))
                      have d3 : ((s[j + 1].toNat : Int) == 10) = false := by simp; omega
                      clear h10 h13 hn10
                      go_wp2
                      exact ⟨⟨j + 1, _, by omega, by go_num, rfl, by rw [HsB.out]; omega, HY.out⟩, by simp [intOf]; omega⟩
                  · have HY := Lib.hid (YES.out (.inr ⟨h13, next_no s (j + 1) hn⟩))
                    clear h10 h13
                    go_wp2
                    exact ⟨⟨j + 1, _, by omega, by go_num, rfl, by rw [HsB.out]; omega, HY.out⟩, by simp [intOf]; omega⟩
                · have d2 : ((s[j].toNat : Int) == 13) = false := by simp; omega
                  have HY := Lib.hid (NO.out (by omega))
                  clear h10 h13
                  go_wp2
                  exact ⟨⟨j + 1, _, by omega, by go_num, rfl, by rw [HsO.out]; omega, HY.out⟩, by simp [intOf]; omega⟩
            · have hOd : O.data.toList = 10 :: (bL ++ insL bL s.data.toList) := by
                have := HC.out
                rw [List.drop_of_length_le (by rw [← Lib.size_eq]; omega)] at this
                simpa [insL] using this
              have HF := Lib.hid (HOK.out O (by omega) hOd)
              clear hOd
              go_wp2_with fail
              refine (HF.out _ (HM.out.below hB2 (Nat.le_refl _))).mono ?_
              rintro e w3 ⟨rfl, hb3⟩
              go_wp2
              go_ret
              exact ⟨rfl, Below_next hB2 hb3⟩
end Go.Proofs.YtbpmjpbgdfjhiaaDoor.BlockClean
