/- block.Raw, and the document's own Raw. -/
import Derived.Test.YtbpmjpbgdfjhiaaDoorBRaw
set_option linter.unusedVariables false
set_option linter.unusedSimpArgs false
namespace Go.Proofs.YtbpmjpbgdfjhiaaDoor
open Go.RowKit
/-- What Raw answers: a text, and an error's number. -/
def rawS (s : List UInt8) : ByteArray := if rawOk s then ⟨#[10]⟩ ++ ⟨(turn rowL escL s).toArray⟩ else ⟨#[]⟩
def rawE (s : List UInt8) : Int := if rawOk s then 0 else 4
theorem rawS_yes (s : List UInt8) (h : rawOk s = true) : rawS s = ⟨#[10]⟩ ++ ⟨(turn rowL escL s).toArray⟩ := by unfold rawS; rw [if_pos h]
theorem rawS_no (s : List UInt8) (h : rawOk s = false) : rawS s = ⟨#[]⟩ := by unfold rawS; rw [h]; rfl
theorem rawE_yes (s : List UInt8) (h : rawOk s = true) : rawE s = 0 := by unfold rawE; rw [if_pos h]
theorem rawE_no (s : List UInt8) (h : rawOk s = false) : rawE s = 4 := by unfold rawE; rw [h]; rfl
theorem rawS_data (s : List UInt8) (h : rawOk s = true) : (rawS s).data.toList = 10 :: turn rowL escL s := by rw [rawS_yes s h, app_data]; simp
theorem rawS_size (s : ByteArray) : (rawS s.data.toList).size ≤ 4 * s.size + 1 := by
  have h := turn_len rowL escL s.data.toList (by decide) (by decide)
  rw [← Lib.size_eq] at h
  cases hr : rawOk s.data.toList
  · rw [rawS_no _ hr]; show 0 ≤ _; omega
  · rw [Lib.size_eq, rawS_data _ hr, List.length_cons]; omega
set_option maxHeartbeats 1000000 in
set_option maxRecDepth 100000 in
theorem raw_any (s : ByteArray) (hs : s.size ≤ 1000000) (w : World) (hm : MaxL w) :
    Calls Tryd.prog 12 #[.string s] w fun e w' => e = .returned (.tuple #[.string (rawS s.data.toList), .int .i64 (rawE s.data.toList)]) ∧ Below w.heap.size w w' := by
  have hag := again_any s hs w
  have hrw := fun w1 (hb : Below w.heap.size w w1) => rows_any s ⟨#[34, 34, 34]⟩ ⟨#[92, 34, 34, 34]⟩ (by omega) (by decide) (by decide) w1 (hm.below hb (Nat.le_refl _))
  have hy := rawS_yes s.data.toList
  have hn := rawS_no s.data.toList
  have ey := rawE_yes s.data.toList
  have en := rawE_no s.data.toList
  have hlen := turn_len rowL escL s.data.toList (by decide) (by decide)
  rw [← Lib.size_eq] at hlen
  change ∀ w1, Below w.heap.size w w1 → Calls Tryd.prog 17 _ w1 (fun e w' => e = .returned (.string ⟨(turn rowL escL s.data.toList).toArray⟩) ∧ Below w1.heap.size w1 w') at hrw
  obtain ⟨T, hT, hTd⟩ : ∃ T : ByteArray, T = ⟨(turn rowL escL s.data.toList).toArray⟩ ∧ T.data.toList = turn rowL escL s.data.toList := ⟨_, rfl, by simp⟩
  rw [← hT] at hrw hy
  rw [← hTd, ← Lib.size_eq] at hlen
  generalize rawS s.data.toList = R at *
  generalize rawE s.data.toList = E at *
  generalize rawOk s.data.toList = ok at *
  have HAG := Lib.hid hag
  have HRW := Lib.hid hrw
  clear hT hTd hag hrw hm
  cases ok
  · obtain rfl := hn rfl
    obtain rfl := en rfl
    clear hy ey hn en
    go_enter Tryd.func12, Tryd.ntmps12
    go_wp2_with (first | (go_at_call 22; refine HAG.out.mono ?_; rintro e w1 ⟨rfl, hb1⟩))
    go_ret2
    exact ⟨rfl, hb1⟩
  · obtain rfl := hy rfl
    obtain rfl := ey rfl
    clear hy ey hn en
    go_enter Tryd.func12, Tryd.ntmps12
    go_wp2_with (first | (go_at_call 22; refine HAG.out.mono ?_; rintro e w1 ⟨rfl, hb1⟩) | (go_at_call 17; refine (HRW.out _ hb1).mono ?_; rintro e w2 ⟨rfl, hb2⟩))
    go_ret2
    exact ⟨rfl, Below_next hb1 hb2⟩
/-- Nothing up to k that no such text has. -/
def NoBad (s : ByteArray) (k : Nat) : Prop := ∀ (j : Nat) (h : j < s.size), j < k → s[j].toNat ≠ 13 ∧ (j + 1 = s.size → s[j].toNat ≠ 92 ∧ s[j].toNat ≠ 34)
theorem NoBad.next {s : ByteArray} {k : Nat} (h : NoBad s k) (hk : k < s.size) (h1 : s[k].toNat ≠ 13) (h2 : k + 1 = s.size → s[k].toNat ≠ 92 ∧ s[k].toNat ≠ 34) : NoBad s (k + 1) := by
  intro j hj hjk
  rcases Nat.lt_or_ge j k with h3 | h3
  · exact h j hj h3
  · obtain rfl : j = k := by omega
    exact ⟨h1, h2⟩
theorem last_byte (s : ByteArray) (h : 0 < s.size) : s.data.toList.getLast? = some (s[s.size - 1]'(by omega)) := by
  rw [List.getLast?_eq_getElem?, ← Lib.size_eq, byte_at s (s.size - 1) (by omega)]
theorem NoBad.all {s : ByteArray} (h : NoBad s s.size) : rawBad s.data.toList = false := by
  unfold rawBad
  rw [Bool.or_eq_false_iff, Bool.or_eq_false_iff]
  refine ⟨⟨?_, ?_⟩, ?_⟩
  · rw [Bool.eq_false_iff]
    intro hc
    obtain ⟨j, hj, e⟩ := List.mem_iff_getElem.1 (List.contains_iff_mem.1 hc)
    rw [← Lib.size_eq] at hj
    have := (h j hj hj).1
    have e2 := byte_at s j hj
    rw [List.getElem?_eq_getElem (by rw [← Lib.size_eq]; exact hj), e] at e2
    rw [← Option.some.inj e2] at this
    exact this rfl
  all_goals
    rw [Bool.eq_false_iff]
    intro hc
    rcases Nat.eq_zero_or_pos s.size with h0 | h0
    · obtain rfl := no_bytes s h0; cases hc
    · rw [last_byte s h0, beq_iff_eq] at hc
      have := (h (s.size - 1) (by omega) (by omega)).2 (by omega)
      rw [Option.some.inj hc] at this
      first | exact this.1 rfl | exact this.2 rfl
theorem bad_13 (s : ByteArray) (k : Nat) (hk : k < s.size) (h : s[k].toNat = 13) : rawBad s.data.toList = true := by
  unfold rawBad
  have : s.data.toList.contains 13 = true := List.contains_iff_mem.2 (by
    have e : s[k] = 13 := UInt8.toNat_inj.1 h
    have := byte_at s k hk
    rw [e] at this
    exact List.mem_of_getElem? this)
  rw [this]; rfl
theorem bad_last (s : ByteArray) (k : Nat) (hk : k < s.size) (hl : k + 1 = s.size) (h : s[k].toNat = 92 ∨ s[k].toNat = 34) : rawBad s.data.toList = true := by
  unfold rawBad
  rw [last_byte s (by omega)]
  have e : s.size - 1 = k := by omega
  simp only [e]
  rcases h with h | h
  · rw [show s[k] = 92 from UInt8.toNat_inj.1 h]; simp
  · rw [show s[k] = 34 from UInt8.toNat_inj.1 h]; simp
end Go.Proofs.YtbpmjpbgdfjhiaaDoor
