/- block.withRows, and the document's own turned. -/
import Derived.Test.YtejniiehfangkaaGreatDoorBInd
set_option linter.unusedVariables false
set_option linter.unusedSimpArgs false
namespace Go.Proofs.YtejniiehfangkaaGreatDoor.Bk
open Go.RowKit
def strOf : Value → Nat
  | .string x => x.size
  | _ => 0
/-- What Cut answers, in sizes. -/
theorem cut_parts (x old new : ByteArray) (ho : 1 ≤ old.size) : ∃ (a b : ByteArray) (f : Bool), (⟨(Lib.cut x.data.toList old.data.toList).1.toArray⟩ : ByteArray) = a ∧ (⟨(Lib.cut x.data.toList old.data.toList).2.1.toArray⟩ : ByteArray) = b ∧ (Lib.cut x.data.toList old.data.toList).2.2 = f ∧
    (f = true → turn old.data.toList new.data.toList x.data.toList = a.data.toList ++ (new.data.toList ++ turn old.data.toList new.data.toList b.data.toList) ∧ a.size + old.size + b.size = x.size) ∧ (f = false → turn old.data.toList new.data.toList x.data.toList = a.data.toList ∧ a.size = x.size) := by
  have ho' : 1 ≤ old.data.toList.length := by rw [← Lib.size_eq]; exact ho
  refine ⟨_, _, _, rfl, rfl, rfl, fun h => ?_, fun h => ?_⟩
  · obtain ⟨h1, h2⟩ := turn_found old.data.toList new.data.toList x.data.toList ho' h
    refine ⟨by simpa using h1, ?_⟩
    rw [Lib.size_eq, Lib.size_eq, Lib.size_eq, Lib.size_eq]
    simpa using h2
  · obtain ⟨h1, h2⟩ := turn_lost old.data.toList new.data.toList x.data.toList ho' h
    refine ⟨by rw [h1]; simp [h2], ?_⟩
    rw [Lib.size_eq, Lib.size_eq]
    simp [h2]
theorem builder_drewN {T e : TypeId} {B b : Nat} {bs : List Value} {w : World} (h : Lib.IsBuilder T e B b bs w) (n : Nat) : Lib.IsBuilder T e B b bs (w.drewN n) := h
set_option maxHeartbeats 1000000 in
set_option maxRecDepth 100000 in
theorem rows_any (s old new : ByteArray) (hs : s.size ≤ 100000000) (ho1 : 1 ≤ old.size) (hn : new.size ≤ 4) (w : World) (hm : MaxL w) :
    Calls Tryz.prog 78 #[.string s, .string old, .string new] w fun e w' => e = .returned (.string ⟨(turn old.data.toList new.data.toList s.data.toList).toArray⟩) ∧ Below w.heap.size w w' := by
  have hlt := hm.lt
  have HM := Lib.hid hm
  clear hm
  go_enter Tryz.func78, Tryz.ntmps78
  go_wp2
  go_loopw [0] (fun t wr => ∃ (x : ByteArray) (l : List UInt8), t = .string x ∧ Lib.IsBuilder 52 5 w.heap.size w.heap.size (Lib.byteCells l) wr ∧ Below w.heap.size w wr ∧ l ++ turn old.data.toList new.data.toList x.data.toList = turn old.data.toList new.data.toList s.data.toList ∧ l.length + 4 * x.size ≤ 4 * s.size) (fun t _ => strOf t)
  case atStart => exact ⟨s, [], rfl, Lib.fresh_isBuilder _ _ w, (Below.refl _ _).alloc (Nat.le_refl _) _, rfl, by simp⟩
  case round =>
    obtain ⟨x, l, rfl, hI, hbr, hc, hlen⟩ := hrel
    have HC := Lib.hid hc
    clear hc
    obtain ⟨m, hmr⟩ := HM.out.above hbr hlt
    obtain ⟨a, b, f, ea, eb, ef, h1, h2⟩ := cut_parts x old new ho1
    have hcut := Tryz.strings_Cut x old m wr (by omega) hmr
    rw [ea, eb, ef] at hcut
    have HCUT := Lib.hid hcut
    clear hcut ea eb ef hmr
    cases f
    · obtain ⟨h3, h4⟩ := h2 rfl
      have H3 := Lib.hid h3
      clear h1 h2 h3
      go_wp2_with (first | (go_at_call 97; refine HCUT.out.mono ?_; rintro e w1 ⟨rfl, nn, rfl⟩) | (go_at_call 28; refine (write_string w.heap.size w.heap.size l a _ (builder_drewN hI nn) (by omega) (by omega) (Go.below_drewN hbr nn).size).mono ?_; rintro e w2 ⟨rfl, hI2, hb2⟩) | (go_at_call 29; refine (Tryz.Builder_String_any _ _ (l ++ a.data.toList) _ hI2 ((Go.below_drewN hbr nn).trans hb2).size).mono ?_; rintro e w3 ⟨rfl, hb3⟩))
      go_ret
      exact ⟨by rw [← HC.out, H3.out]; rfl, ((Go.below_drewN hbr nn).trans hb2).trans hb3⟩
    · obtain ⟨h3, h4⟩ := h1 rfl
      have H3 := Lib.hid h3
      clear h1 h2 h3
      have hla : (l ++ a.data.toList).length = l.length + a.size := by rw [List.length_append, ← Lib.size_eq]
      have HLA := Lib.hid hla
      clear hla
      go_wp2_with (first | (go_at_call 97; refine HCUT.out.mono ?_; rintro e w1 ⟨rfl, nn, rfl⟩) | (go_at_call 28; first | (refine (write_string w.heap.size w.heap.size (l ++ a.data.toList) new _ hI2 (by rw [HLA.out]; omega) (by omega) ((Go.below_drewN hbr nn).trans hb2).size).mono ?_; rintro e w3 ⟨rfl, hI3, hb3⟩) | (refine (write_string w.heap.size w.heap.size l a _ (builder_drewN hI nn) (by omega) (by omega) (Go.below_drewN hbr nn).size).mono ?_; rintro e w2 ⟨rfl, hI2, hb2⟩)))
      refine ⟨⟨b, l ++ a.data.toList ++ new.data.toList, rfl, hI3, ((Go.below_drewN hbr nn).trans hb2).trans hb3, by rw [← HC.out, H3.out]; simp, ?_⟩, by simp [strOf]; omega⟩
      rw [List.length_append, HLA.out, ← Lib.size_eq]; omega
theorem pre_at (s old : ByteArray) (k : Nat) : ((s.extract k (k + old.size)).toList == old.toList) = old.data.toList.isPrefixOf (s.data.toList.drop k) := by
  rw [Lib.toList_data, Lib.toList_data, Lib.extract_data, Nat.add_sub_cancel_left, Lib.size_eq, Bool.eq_iff_iff, beq_iff_eq, List.isPrefixOf_iff_prefix, List.prefix_iff_eq_take]
  exact eq_comm
theorem pre_long (s old : ByteArray) (k : Nat) (hk : k ≤ s.size) (h : ¬ k + old.size ≤ s.size) : old.data.toList.isPrefixOf (s.data.toList.drop k) = false := by
  rw [Bool.eq_false_iff]
  intro hp
  have := (List.isPrefixOf_iff_prefix.1 hp).length_le
  rw [List.length_drop, ← Lib.size_eq, ← Lib.size_eq] at this
  omega
theorem app_data (a b : ByteArray) : (a ++ b).data.toList = a.data.toList ++ b.data.toList := by simp
theorem drop_at (s : ByteArray) (k : Nat) (h : k < s.size) : s.data.toList.drop k = s[k] :: s.data.toList.drop (k + 1) := by
  rw [drop_cons s k h, get_bang s k h]
theorem ext_one (s : ByteArray) (k : Nat) (h : k < s.size) : (s.extract k (k + 1)).data.toList = [s[k]] := by
  rw [Lib.extract_data, show k + 1 - k = 1 by omega, drop_at s k h]; rfl
set_option maxHeartbeats 1000000 in
set_option maxRecDepth 100000 in
theorem turned_any (s old new : ByteArray) (hs : s.size ≤ 100000000) (ho1 : 1 ≤ old.size) (ho4 : old.size ≤ 4) (hn : new.size ≤ 4) (w : World) :
    Calls Tryz.prog 85 #[.string s, .string old, .string new] w fun e w' => e = .returned (.string ⟨(turn old.data.toList new.data.toList s.data.toList).toArray⟩) ∧ w = w' := by
  go_enter Tryz.func85, Tryz.ntmps85
  go_wp2
  go_loop [7, 8] (fun t i => ∃ (k : Nat) (S : ByteArray), k ≤ s.size ∧ i = .int .i64 k ∧ t = .string S ∧ S.size ≤ 4 * k ∧ S.data.toList ++ turn old.data.toList new.data.toList (s.data.toList.drop k) = turn old.data.toList new.data.toList s.data.toList) (fun _ i => s.size - (intOf i).toNat)
  case atStart => exact ⟨0, ⟨#[]⟩, Nat.zero_le _, rfl, rfl, by decide, by simp⟩
  case round =>
    obtain ⟨k, S, hk, rfl, rfl, hS, hc⟩ := hrel
    have HC := Lib.hid hc
    clear hc
    have ho' : 1 ≤ old.data.toList.length := by rw [← Lib.size_eq]; exact ho1
    have HO := Lib.hid ho'
    clear ho'
    by_cases hlt : k < s.size
    · have HP := Lib.hid (pre_at s old k)
      have HL := Lib.hid (pre_long s old k hk)
      have HD := Lib.hid (drop_at s k hlt)
      have HE := Lib.hid (ext_one s k hlt)
      by_cases hr : k + old.size ≤ s.size
      · cases hq : ((s.extract k (k + old.size)).toList == old.toList)
        · have HT : Hid (turn old.data.toList new.data.toList (s.data.toList.drop k) = s[k] :: turn old.data.toList new.data.toList (s.data.toList.drop (k + 1))) := by
            rw [HD.out]; exact Lib.hid (turn_miss _ _ _ _ (by rw [← HD.out, ← HP.out]; exact hq))
          go_wp2
          refine ⟨⟨k + 1, S ++ s.extract k (k + 1), by omega, by go_num, rfl, by simp; omega, ?_⟩, by simp [intOf]; omega⟩
          rw [← HC.out, HT.out, app_data, HE.out]; simp
        · have HT := Lib.hid (turn_hit old.data.toList new.data.toList (s.data.toList.drop k) HO.out (by rw [← HP.out]; exact hq))
          go_wp2
          refine ⟨⟨k + old.size, S ++ new, by omega, by go_num, rfl, by simp; omega, ?_⟩, by simp [intOf]; omega⟩
          rw [← HC.out, HT.out, app_data, List.drop_drop, ← Lib.size_eq]; simp
      · have HT : Hid (turn old.data.toList new.data.toList (s.data.toList.drop k) = s[k] :: turn old.data.toList new.data.toList (s.data.toList.drop (k + 1))) := by
          rw [HD.out]; exact Lib.hid (turn_miss _ _ _ _ (by rw [← HD.out]; exact HL.out hr))
        go_wp2
        refine ⟨⟨k + 1, S ++ s.extract k (k + 1), by omega, by go_num, rfl, by simp; omega, ?_⟩, by simp [intOf]; omega⟩
        rw [← HC.out, HT.out, app_data, HE.out]; simp
    · obtain rfl : k = s.size := by omega
      go_wp2
      go_ret
      refine ⟨?_, rfl⟩
      rw [← HC.out, List.drop_of_length_le (by rw [← Lib.size_eq]; exact Nat.le_refl _), turn_nil, List.append_nil]
      show Ending.returned (.string S) = _
      simp
end Go.Proofs.YtejniiehfangkaaGreatDoor.Bk
