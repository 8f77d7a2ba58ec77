/- QuoteOne (P2.1, P2.3): two texts have one quoted form just if they are one; it holds no rune below 20, and just two signs 22 that no 5c is ahead of: for every two strings, with no condition but what the card lists (Go's own tables as their initialisers lay them). -/
import Derived.Test.YtmkenjelcmpghaaDoorQAwake
import Derived.Test.YtmkenjelcmpghaaDoorQMath
import Derived.Test.YtmkenjelcmpghaaDoorCards
import Derived.SevenTiedAt
import Derived.ChangeOld
import Derived.OpenShut
import Derived.ShutString
import Derived.ProofKit
import Derived.Below
set_option linter.unusedVariables false
set_option linter.unusedSimpArgs false
namespace Go.Proofs.YtmkenjelcmpghaaDoor.QuoteOne
open Go.RowKit
def ends (W : World) (e : Ending) (W' : World) : Prop := e = .returned (.bool true) ∧ Below W.heap.size W W'
/-- The signs from k on, the last one left out. -/
def Scan (A : ByteArray) (k : Nat) : Prop := okS ((A.data.toList.take (A.size - 1)).drop k) = true
theorem scan_start (s : ByteArray) : Scan (quoteB s) 1 := by
  unfold Scan
  have : (quoteB s).data.toList.take ((quoteB s).size - 1) = 34 :: qIn s.data.toList := by
    rw [quoteB_size]
    simp [quoteB, qL]
  rw [this]
  exact okS_qIn _
theorem okS_step (c : UInt8) (t : List UInt8) (h : okS (c :: t) = true) : ¬ c.toNat < 32 ∧ c.toNat ≠ 34 ∧ (c.toNat = 92 → okS (t.drop 1) = true) ∧ (c.toNat ≠ 92 → okS t = true) := by
  have hn : ¬ (c.toNat < 32 ∨ c.toNat = 34) := fun hc => by
    cases t with
    | nil => simp only [okS] at h; rw [if_pos hc] at h; cases h
    | cons b t => rw [okS, if_pos hc] at h; cases h
  refine ⟨fun x => hn (.inl x), fun x => hn (.inr x), fun e => ?_, fun e => ?_⟩
  · cases t with
    | nil => rfl
    | cons b t => rw [okS, if_neg hn, if_pos e] at h; exact h
  · rw [okS_plain c t (fun x => hn (.inl x)) (fun x => hn (.inr x)) e] at h; exact h
theorem scan_step (A : ByteArray) (k : Nat) (hk : k + 1 < A.size) (h : Scan A k) : ¬ (A[k]'(by omega)).toNat < 32 ∧ (A[k]'(by omega)).toNat ≠ 34 ∧ ((A[k]'(by omega)).toNat = 92 → Scan A (k + 2)) ∧ ((A[k]'(by omega)).toNat ≠ 92 → Scan A (k + 1)) := by
  unfold Scan at h ⊢
  have hl : k < (A.data.toList.take (A.size - 1)).length := by rw [List.length_take, ← Lib.size_eq]; omega
  rw [List.drop_eq_getElem_cons hl, List.getElem_take] at h
  have := okS_step _ _ h
  rw [List.drop_drop] at this
  exact this
theorem q_first (s : ByteArray) (h : 0 < (quoteB s).size) : ((quoteB s)[0]'h).toNat = 34 := rfl
theorem q_last (s : ByteArray) (h : (quoteB s).size - 1 < (quoteB s).size) : ((quoteB s)[(quoteB s).size - 1]'h).toNat = 34 := by
  have e : (quoteB s)[(quoteB s).size - 1]'h = (quoteB s).data.toList[(quoteB s).size - 1]'(by rw [← Lib.size_eq]; exact h) := rfl
  rw [e]
  have : (quoteB s).data.toList = (34 :: qIn s.data.toList) ++ [34] := by simp [quoteB, qL]
  have hn : (quoteB s).size - 1 = (34 :: qIn s.data.toList).length := by rw [quoteB_size]; simp
  simp only [this, hn]
  rw [List.getElem_append_right (Nat.le_refl _)]
  simp
set_option maxHeartbeats 1000000 in
theorem walk_long1 (W : World) (hT : Tab16 W) (s t : ByteArray) (hs : s.size ≤ maxLen) (hl : 200 < s.size) : Calls Tryd.prog 6 #[.string s, .string t] W (ends W) := by
  unfold maxLen at hs
  have HT := Lib.hid hT
  clear hT
  go_enter Tryd.func6, Tryd.ntmps6
  go_wp2_with fail
  refine (awake_any _ HT.out).mono ?_
  rintro e w1 ⟨rfl, hb1⟩
  go_wp2_with fail
  refine (awake_any _ (HT.out.go hb1)).mono ?_
  rintro e w2 ⟨rfl, hb2⟩
  go_wp2_with fail
  go_ret
  exact ⟨rfl, hb1.trans (hb2.mono hb1.size)⟩
set_option maxHeartbeats 1000000 in
theorem walk_long2 (W : World) (hT : Tab16 W) (s t : ByteArray) (hs : s.size ≤ 200) (ht : t.size ≤ maxLen) (hl : 200 < t.size) : Calls Tryd.prog 6 #[.string s, .string t] W (ends W) := by
  unfold maxLen at ht
  have HT := Lib.hid hT
  clear hT
  go_enter Tryd.func6, Tryd.ntmps6
  go_wp2_with fail
  refine (awake_any _ HT.out).mono ?_
  rintro e w1 ⟨rfl, hb1⟩
  go_wp2_with fail
  refine (awake_any _ (HT.out.go hb1)).mono ?_
  rintro e w2 ⟨rfl, hb2⟩
  go_wp2_with fail
  go_ret
  exact ⟨rfl, hb1.trans (hb2.mono hb1.size)⟩
set_option maxHeartbeats 1000000 in
theorem walk_no1 (W : World) (hT : Tab16 W) (s t : ByteArray) (hs : s.size ≤ 200) (ht : t.size ≤ 200) (hr : rightB s = false) : Calls Tryd.prog 6 #[.string s, .string t] W (ends W) := by
  have HT := Lib.hid hT
  have HR := Lib.hid hr
  clear hT hr
  go_enter Tryd.func6, Tryd.ntmps6
  go_wp2_with fail
  refine (awake_any _ HT.out).mono ?_
  rintro e w1 ⟨rfl, hb1⟩
  go_wp2_with fail
  refine (right_ref s (by omega) _).mono ?_
  rw [HR.out]
  rintro e w' ⟨rfl, rfl⟩
  go_wp2_with fail
  refine (awake_any _ (HT.out.go hb1)).mono ?_
  rintro e w2 ⟨rfl, hb2⟩
  go_wp2_with fail
  go_ret
  exact ⟨rfl, hb1.trans (hb2.mono hb1.size)⟩
set_option maxHeartbeats 1000000 in
theorem walk_no2 (W : World) (hT : Tab16 W) (s t : ByteArray) (hs : s.size ≤ 200) (ht : t.size ≤ 200) (hr : rightB s = true) (hr2 : rightB t = false) : Calls Tryd.prog 6 #[.string s, .string t] W (ends W) := by
  have HT := Lib.hid hT
  have HR := Lib.hid hr
  have HR2 := Lib.hid hr2
  clear hT hr hr2
  go_enter Tryd.func6, Tryd.ntmps6
  go_wp2_with fail
  refine (awake_any _ HT.out).mono ?_
  rintro e w1 ⟨rfl, hb1⟩
  go_wp2_with fail
  refine (right_ref s (by omega) _).mono ?_
  rw [HR.out]
  rintro e w' ⟨rfl, rfl⟩
  go_wp2_with fail
  refine (right_ref t (by omega) _).mono ?_
  rw [HR2.out]
  rintro e w' ⟨rfl, rfl⟩
  go_wp2_with fail
  refine (awake_any _ (HT.out.go hb1)).mono ?_
  rintro e w2 ⟨rfl, hb2⟩
  go_wp2_with fail
  go_ret
  exact ⟨rfl, hb1.trans (hb2.mono hb1.size)⟩
/-- What Quote tells. -/
def Tells (s A : ByteArray) : Prop := ∀ w, Tab16 w → Calls Tryd.prog 9 #[.string s] w fun e w' => e = .returned (.tuple #[.string A, .int .i64 0]) ∧ Below w.heap.size w w'
set_option maxHeartbeats 1000000 in
set_option maxRecDepth 100000 in
theorem main_any (W : World) (hT : Tab16 W) (s t A A2 : ByteArray) (hs : s.size ≤ 200) (ht : t.size ≤ 200) (HR : Hid (rightB s = true)) (HR2 : Hid (rightB t = true)) (kA : Hid (Tells s A)) (kA2 : Hid (Tells t A2))
    (hz1 : 2 ≤ A.size) (hz2 : A.size ≤ 1202) (h0 : (A[0]'(by omega)).toNat = 34) (h1 : (A[A.size - 1]'(by omega)).toNat = 34) (HS : Hid (Scan A 1)) (e : Bool) (hx : (A.toList == A2.toList) = e) (hy : (s.toList == t.toList) = e) : Calls Tryd.prog 6 #[.string s, .string t] W (ends W) := by
  have HT := Lib.hid hT
  have dS : decide ((200 : Int) < (s.size : Int)) = false := by simp; omega
  have dT : decide ((200 : Int) < (t.size : Int)) = false := by simp; omega
  clear hT
  go_enter Tryd.func6, Tryd.ntmps6
  go_wp2_with fail
  refine (awake_any _ HT.out).mono ?_
  rintro e w1 ⟨rfl, hb1⟩
  go_wp2_with fail
  refine (right_ref s (by omega) _).mono ?_
  rw [HR.out]
  rintro e w' ⟨rfl, rfl⟩
  go_wp2_with fail
  refine (right_ref t (by omega) _).mono ?_
  rw [HR2.out]
  rintro e w' ⟨rfl, rfl⟩
  go_wp2_with fail
  refine (kA.out _ (HT.out.go hb1)).mono ?_
  rintro e w2 ⟨rfl, hb2⟩
  go_wp2_with fail
  refine (kA2.out _ ((HT.out.go hb1).go hb2)).mono ?_
  rintro e w3 ⟨rfl, hb3⟩
  have HB : Hid (Below W.heap.size W w3) := hb1.trans ((hb2.mono hb1.size).trans (hb3.mono (Nat.le_trans hb1.size hb2.size)))
  clear hb1 hb2 hb3
  cases e
  all_goals
    go_wp2_with fail
    clear h0 h1 hx hy
    go_loop [9] (fun i => ∃ k : Nat, 1 ≤ k ∧ k ≤ A.size ∧ i = .int .i64 k ∧ Scan A k) (fun i => A.size - (intOf i).toNat)
    case atStart => exact ⟨1, by omega, by omega, rfl, HS.out⟩
    case round =>
      obtain ⟨k, hk1, hk2, rfl, hsc⟩ := hrel
      have HSC := Lib.hid hsc
      clear hsc
      by_cases hlt : k + 1 < A.size
      · obtain ⟨c1, c2, c3, c4⟩ := scan_step A k hlt HSC.out
        have C3 := Lib.hid c3
        have C4 := Lib.hid c4
        clear c3 c4
        have hk : k < A.size := by omega
        have hlt' : (k : Int) < (A.size : Int) - 1 := by omega
        by_cases c : (A[k]'(by omega)).toNat = 92
        · have C := Lib.hid c
          have c92 : (((A[k]'(by omega)).toNat : Int) == 92) = true := by simp [c]
          have c34 : (((A[k]'(by omega)).toNat : Int) == 34) = false := by simp [c]
          clear c
          go_wp2_with fail
          exact ⟨⟨k + 2, by omega, by omega, by go_num, C3.out C.out⟩, by simp [intOf]; omega⟩
        · have C := Lib.hid c
          have c92 : (((A[k]'(by omega)).toNat : Int) == 92) = false := by simp; omega
          have c34 : (((A[k]'(by omega)).toNat : Int) == 34) = false := by simp; omega
          clear c
          go_wp2_with fail
          exact ⟨⟨k + 1, by omega, by omega, by go_num, C4.out C.out⟩, by simp [intOf]; omega⟩
      · have hlt' : ¬ (k : Int) < (A.size : Int) - 1 := by omega
        go_wp2_with fail
        go_ret
        exact ⟨rfl, HB.out⟩
theorem str_ne (a b : ByteArray) (h : ¬ a = b) : (a.toList == b.toList) = false := by
  rw [Lib.toList_data, Lib.toList_data, Bool.eq_false_iff]
  intro e
  exact h (ByteArray.ext (Array.toList_inj.1 (eq_of_beq e)))
theorem walk_main (W : World) (hT : Tab16 W) (s t : ByteArray) (hs : s.size ≤ 200) (ht : t.size ≤ 200) (hr : rightB s = true) (hr2 : rightB t = true) : Calls Tryd.prog 6 #[.string s, .string t] W (ends W) := by
  have hz : 2 ≤ (quoteB s).size ∧ (quoteB s).size ≤ 1202 := by
    have := (qIn_len s.data.toList).2; rw [quoteB_size]; rw [← Lib.size_eq] at this; omega
  have k := fun e hx hy => main_any W hT s t (quoteB s) (quoteB t) hs ht (Lib.hid hr) (Lib.hid hr2) (Lib.hid fun w h => quote_yes s (by omega) hr w h) (Lib.hid fun w h => quote_yes t (by omega) hr2 w h) hz.1 hz.2 (q_first s (by omega)) (q_last s (by omega)) (Lib.hid (scan_start s)) e hx hy
  by_cases hst : s = t
  · subst hst
    exact k true (by simp) (by simp)
  · exact k false (str_ne _ _ (fun e => hst (quote_inj s t hr hr2 e))) (str_ne _ _ hst)
theorem walk (W : World) (hT : Tab16 W) (s : ByteArray) (hs : s.size ≤ maxLen) (t : ByteArray) (ht : t.size ≤ maxLen) : Calls Tryd.prog 6 #[.string s, .string t] W fun e W' => e = .returned (.bool true) ∧ Below W.heap.size W W' := by
  show Calls _ _ _ _ (ends W)
  by_cases h1 : 200 < s.size
  · exact walk_long1 W hT s t hs h1
  by_cases h2 : 200 < t.size
  · exact walk_long2 W hT s t (by omega) ht h2
  cases hr : rightB s
  · exact walk_no1 W hT s t (by omega) (by omega) hr
  cases hr2 : rightB t
  · exact walk_no2 W hT s t (by omega) (by omega) hr hr2
  · exact walk_main W hT s t (by omega) (by omega) hr hr2
end Go.Proofs.YtmkenjelcmpghaaDoor.QuoteOne
