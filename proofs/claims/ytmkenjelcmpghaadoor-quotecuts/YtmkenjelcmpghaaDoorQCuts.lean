/- QuoteCuts (P2.2): of a quoted text no beginning is read, and each tells its end as the place. The walk. -/
import Derived.Test.YtmkenjelcmpghaaDoorQBoth
set_option linter.unusedVariables false
set_option linter.unusedSimpArgs false
namespace Go.Proofs.YtmkenjelcmpghaaDoor.QuoteCuts
open Go.RowKit
def ends (W : World) (e : Ending) (W' : World) : Prop := e = .returned (.bool true) ∧ Below W.heap.size W W'
def Pln (c : Nat) : Prop := 32 ≤ c ∧ c ≤ 126 ∧ c ≠ 34 ∧ c ≠ 92
def PlnTo (s : ByteArray) (i k : Nat) : Prop := ∀ j, i ≤ j → j < k → Pln (s.get! j).toNat
theorem bad_plain (s : ByteArray) : ∀ (f i : Nat), s.size < i + f → PlnTo s i s.size → badF s f i = -1
  | 0, i, hf, _ => rfl
  | f + 1, i, hf, h => by
    by_cases hi : i < s.size
    · have hp := h i (Nat.le_refl _) hi
      have hd := size_one s i hi (by unfold Pln at hp; omega)
      have hw : (Utf8.decode s i).2 = 1 := by rw [hd.1]
      rw [badF, if_pos hi, hd.2, hw]
      simp only [Bool.false_eq_true, if_false]
      exact bad_plain s f (i + 1) (by omega) (fun j a b => h j (by omega) b)
    · exact badF_end s _ i hi
theorem right_plain (s : ByteArray) (h : PlnTo s 0 s.size) : rightB s = true := by
  rw [right_iff]; unfold badI; rw [bad_plain s _ 0 (by omega) h]; rfl
theorem unqF_plain (t : ByteArray) : ∀ (f i : Nat) (o : List UInt8), t.size < i + f → PlnTo t i t.size → unqF t f i o = ([], t.size, 4)
  | 0, i, o, hf, _ => rfl
  | f + 1, i, o, hf, h => by
    by_cases hi : i < t.size
    · have hp := h i (Nat.le_refl _) hi
      unfold Pln at hp
      have hd := size_one t i hi (by omega)
      have hw : (Utf8.decode t i).2 = 1 := by rw [hd.1]
      rw [unqF, if_pos hi, if_neg (by omega), if_neg (by omega), if_neg (by omega), hd.2, hw]
      simp only [Bool.false_eq_true, if_false]
      exact unqF_plain t f (i + 1) _ (by omega) (fun j a b => h j (by omega) b)
    · exact unqF_end t _ i o hi
theorem qIn_plain (l : List UInt8) (h : ∀ c ∈ l, Pln c.toNat) : qIn l = l := by
  induction l with
  | nil => rfl
  | cons c l ih =>
    have hc := h c (by simp)
    unfold Pln at hc
    have e := qb_plain c.toNat (by omega) (by omega) (by omega) (by omega)
    rw [UInt8.ofNat_toNat] at e
    rw [qIn_cons, e, ih (fun d hd => h d (by simp [hd]))]; rfl
theorem mem_plain (s : ByteArray) (h : PlnTo s 0 s.size) : ∀ c ∈ s.data.toList, Pln c.toNat := by
  intro c hc
  obtain ⟨j, hj, rfl⟩ := List.getElem_of_mem hc
  have := h j (Nat.zero_le _) (by rw [Lib.size_eq]; exact hj)
  rw [get_bang s j (by rw [Lib.size_eq]; exact hj)] at this
  exact this
theorem cut_plain (s : ByteArray) (h : PlnTo s 0 s.size) (k : Nat) (hk : k < s.size + 2) : (quoteB s).size = s.size + 2 ∧ unqE ((quoteB s).extract 0 k) = .returned (.tuple #[.string ⟨#[]⟩, .int .i64 k, .int .i64 4]) := by
  have hq : qL s.data.toList = 34 :: (s.data.toList ++ [34]) := by unfold qL; rw [qIn_plain _ (mem_plain s h)]
  have hz : (quoteB s).size = s.size + 2 := by rw [quoteB_size, qIn_plain _ (mem_plain s h), ← Lib.size_eq]
  refine ⟨hz, ?_⟩
  have hd : ((quoteB s).extract 0 k).data.toList = (34 :: (s.data.toList ++ [34])).take k := by
    rw [Lib.extract_data]; simp [quoteB, hq]
  have hs : ((quoteB s).extract 0 k).size = k := by rw [ByteArray.size_extract, hz]; omega
  generalize (quoteB s).extract 0 k = t at *
  have key : unq t = ([], k, 4) := by
    unfold unq
    by_cases h0 : 0 < t.size ∧ (t.get! 0).toNat = 34
    · rw [if_pos h0, unqF_plain t (t.size + 1) 1 [] (by omega), hs]
      intro j h1 h2
      have e : t.get! j = s.get! (j - 1) := by
        have a := get_bang_data t j h2
        have hj : j - 1 < s.size := by omega
        have b := get_bang_data s (j - 1) hj
        rw [← a, ← b]
        have hl : j - 1 < s.data.toList.length := by rw [← Lib.size_eq]; exact hj
        simp only [hd, List.getElem_take]
        rw [List.getElem_cons, dif_neg (by omega), List.getElem_append_left hl]
      rw [e]
      exact h (j - 1) (Nat.zero_le _) (by omega)
    · rw [if_neg h0]
      have : k = 0 := by
        rcases Nat.eq_zero_or_pos k with e | e
        · exact e
        · exfalso
          refine h0 ⟨by omega, ?_⟩
          rw [← get_bang_data t 0 (by omega)]
          obtain ⟨k', rfl⟩ : ∃ k', k = k' + 1 := ⟨k - 1, by omega⟩
          simp only [hd, List.getElem_take, List.getElem_cons_zero]
          rfl
      rw [this]
  rw [unqE_is t _ _ _ key]
  rfl
set_option maxHeartbeats 1000000 in
theorem walk_long (W : World) (hT : Both W) (s : ByteArray) (m : Int) (hs : s.size ≤ maxLen) (hl : 200 < s.size) : Calls Tryd.prog 7 #[.string s, .int .u16 m] W (ends W) := by
  unfold maxLen at hs
  have HT := Lib.hid hT
  clear hT
  go_enter Tryd.func7, Tryd.ntmps7
  go_wp2_with fail
  refine (awake_any _ HT.out.1).mono ?_
  rintro e w1 ⟨rfl, hb1⟩
  go_wp2_with fail
  refine (awake_any _ (HT.out.go hb1).1).mono ?_
  rintro e w2 ⟨rfl, hb2⟩
  go_wp2_with fail
  go_ret
  exact ⟨rfl, hb1.trans (hb2.mono hb1.size)⟩
set_option maxHeartbeats 1000000 in
set_option maxRecDepth 100000 in
theorem walk_main (W : World) (hT : Both W) (s : ByteArray) (m : Int) (h0 : 0 ≤ m) (h1 : m < 65536) (hl : s.size ≤ 200) : Calls Tryd.prog 7 #[.string s, .int .u16 m] W (ends W) := by
  have HT := Lib.hid hT
  have dS : decide ((200 : Int) < (s.size : Int)) = false := by simp; omega
  clear hT
  go_enter Tryd.func7, Tryd.ntmps7
  go_wp2_with fail
  refine (awake_any _ HT.out.1).mono ?_
  rintro e w1 ⟨rfl, hb1⟩
  go_wp2_with fail
  clear dS
  go_loop [5] (fun i => ∃ k : Nat, k ≤ s.size ∧ i = .int .i64 k ∧ PlnTo s 0 k) (fun i => s.size - (intOf i).toNat)
  case atStart => exact ⟨0, Nat.zero_le _, rfl, fun j _ h => by omega⟩
  case round =>
    obtain ⟨k, hk, rfl, hp⟩ := hrel
    have HP := Lib.hid hp
    clear hp
    by_cases hlt : k < s.size
    · have hgb : (s.get! k).toNat = s[k].toNat := by rw [get_bang s k hlt]
      have HN : Hid (Pln s[k].toNat → PlnTo s 0 (k + 1)) := fun h j _ hj => by
        by_cases e : j = k
        · subst e; rw [hgb]; exact h
        · exact HP.out j (Nat.zero_le _) (by omega)
      have hc8 : s[k].toNat < 256 := s[k].toNat_lt
      clear hgb
      by_cases c1 : s[k].toNat < 32
      · go_wp2_with fail
        go_ret
        exact ⟨rfl, hb1⟩
      by_cases c2 : 126 < s[k].toNat
      · go_wp2_with fail
        go_ret
        exact ⟨rfl, hb1⟩
      by_cases c3 : s[k].toNat = 34
      · go_wp2_with fail
        go_ret
        exact ⟨rfl, hb1⟩
      have d3 : ((s[k].toNat : Int) == 34) = false := by simp; omega
      by_cases c4 : s[k].toNat = 92
      · clear c3
        go_wp2_with fail
        go_ret
        exact ⟨rfl, hb1⟩
      have d4 : ((s[k].toNat : Int) == 92) = false := by simp; omega
      have HQ := Lib.hid (HN.out ⟨by omega, by omega, c3, c4⟩)
      clear c3 c4
      go_wp2_with fail
      exact ⟨⟨k + 1, by omega, by go_num, HQ.out⟩, by simp [intOf]; omega⟩
    · obtain rfl : k = s.size := by omega
      have hr := right_plain s HP.out
      have hz := (cut_plain s HP.out 0 (by omega)).1
      have hu : ∀ x : Int, 0 ≤ x → x < (quoteB s).size → ∀ w, ErrV w → Calls Tryd.prog 12 #[.string ((quoteB s).extract 0 x.toNat)] w fun e w' => e = .returned (.tuple #[.string ⟨#[]⟩, .int .i64 x, .int .i64 4]) ∧ Below w.heap.size w w' := fun x hx0 hx w h => by
        have k := unq_any ((quoteB s).extract 0 x.toNat) (by rw [ByteArray.size_extract]; omega) w h
        rw [(cut_plain s HP.out x.toNat (by omega)).2, show ((x.toNat : Nat) : Int) = x by omega] at k
        exact k
      have hq := fun w h => quote_yes s (by omega) hr w h
      have hA1 : 2 ≤ (quoteB s).size := by omega
      have hA2 : (quoteB s).size ≤ 202 := by omega
      clear hr hz
      generalize quoteB s = A at *
      have HU := Lib.hid hu
      have HQ := Lib.hid hq
      have hAz : ((A.size : Int) == 0) = false := beq_eq_false_iff_ne.2 (by omega)
      have hA0 : 0 < (A.size : Int) := by omega
      have hm0 : 0 ≤ m % (A.size : Int) := Int.emod_nonneg _ (by omega)
      have hm1 : m % (A.size : Int) < (A.size : Int) := Int.emod_lt_of_pos _ hA0
      have hm2 : m % (A.size : Int) ≤ (A.size : Int) := by omega
      clear hu hq
      go_wp2_with fail
      refine (HQ.out _ (HT.out.go hb1).1).mono ?_
      rintro e w2 ⟨rfl, hb2⟩
      go_wp2_with fail
      refine (HU.out _ hm0 hm1 _ ((HT.out.go hb1).go hb2).2).mono ?_
      rintro e w3 ⟨rfl, hb3⟩
      go_wp2_with fail
      go_ret
      exact ⟨rfl, hb1.trans ((hb2.mono hb1.size).trans (hb3.mono (Nat.le_trans hb1.size hb2.size)))⟩
theorem u16_bd (m : Int) (h : (Lit.int .u16 m).wf = true) : 0 ≤ m ∧ m < 65536 := by
  simp only [Lit.wf, Bool.and_eq_true, decide_eq_true_eq] at h
  have a : IntKind.u16.min = 0 := by decide +kernel
  have b : IntKind.u16.max = 65535 := by decide +kernel
  omega
theorem walk (W : World) (hT : Both W) (s : ByteArray) (hs : s.size ≤ maxLen) (m : Int) (hm : (Lit.int .u16 m).wf = true) : Calls Tryd.prog 7 #[.string s, .int .u16 m] W fun e W' => e = .returned (.bool true) ∧ Below W.heap.size W W' := by
  show Calls _ _ _ _ (ends W)
  obtain ⟨h0, h1⟩ := u16_bd m hm
  by_cases hl : 200 < s.size
  · exact walk_long W hT s m hs hl
  · exact walk_main W hT s m h0 h1 (by omega)
end Go.Proofs.YtmkenjelcmpghaaDoor.QuoteCuts
