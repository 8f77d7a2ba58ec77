import Derived.Test.YtbfgekfajbbdaaaWalksK
import Derived.Test.YtbfgekfajbbdaaaShelf
set_option linter.unusedVariables false
set_option linter.unusedSimpArgs false
namespace Go.Proofs.Ytbfgekfajbbdaaa
open Go.RowKit
set_option maxRecDepth 100000 in
theorem valid_rune (r : Int) (w : World) : Calls Try.prog 26 #[.int .i32 r] w fun e w' => e = .returned (.bool (isR r)) ∧ w = w' := by
  by_cases h1 : 0 ≤ r
  · by_cases h2 : r < 55296
    · go_enter Try.func26, Try.ntmps26
      go_wp2
      go_ret
      exact ⟨ret_bool (by simp [isR]; omega), rfl⟩
    · by_cases h3 : 57343 < r
      · by_cases h4 : r ≤ 1114111
        · go_enter Try.func26, Try.ntmps26
          go_wp2
          go_ret
          exact ⟨ret_bool (by simp [isR]; omega), rfl⟩
        · go_enter Try.func26, Try.ntmps26
          go_wp2
          go_ret
          refine ⟨ret_bool ?_, rfl⟩
          symm; rw [Bool.eq_false_iff]; simp [isR]; omega
      · go_enter Try.func26, Try.ntmps26
        go_wp2
        go_ret
        refine ⟨ret_bool ?_, rfl⟩
        symm; rw [Bool.eq_false_iff]; simp [isR]; omega
  · go_enter Try.func26, Try.ntmps26
    go_wp2
    go_ret
    refine ⟨ret_bool ?_, rfl⟩
    symm; rw [Bool.eq_false_iff]; simp [isR]; omega
/-- The bytes of runes, one behind the other. -/
def ofS (zs : List Int) : List UInt8 := zs.flatMap fun z => encL z.toNat
theorem ofS_snoc (zs : List Int) (z : Int) : ofS (zs ++ [z]) = ofS zs ++ encL z.toNat := by simp [ofS]
theorem ofS_len (zs : List Int) : (ofS zs).length ≤ 4 * zs.length := by
  induction zs with
  | nil => simp [ofS]
  | cons z zs ih =>
    have := (encL_len z.toNat).2
    simp only [ofS, List.flatMap_cons, List.length_append, List.length_cons] at ih ⊢
    omega
theorem take_next {α : Type} (l : List α) (k : Nat) (x : α) (h : l[k]? = some x) : l.take (k + 1) = l.take k ++ [x] := by rw [List.take_add_one, h]; rfl
theorem all_next (zs : List Int) (k : Nat) (z : Int) (h : zs[k]? = some z) (ha : (zs.take k).all isR = true) (hz : isR z = true) : (zs.take (k + 1)).all isR = true := by
  rw [take_next zs k z h, List.all_append, ha]; simp [hz]
theorem all_not (zs : List Int) (k : Nat) (z : Int) (h : zs[k]? = some z) (hz : isR z = false) : zs.all isR = false := by
  rw [Bool.eq_false_iff]; intro ha
  rw [List.all_eq_true] at ha
  have := ha z (List.mem_of_getElem? h)
  rw [hz] at this; cases this
set_option maxHeartbeats 2000000 in
set_option maxRecDepth 100000 in
theorem of_no (A : Option Addr) (n c : Nat) (zs : List Int) (w : World) (hn : n ≤ 1048576) (hA : Rd w A n (zs.map (Value.int .i32))) (hno : zs.all isR = false) :
    Calls Try.prog 16 #[.slice A n c] w fun e w' => e = .returned (.tuple #[.string ⟨#[]⟩, .int .i64 2]) ∧ w = w' := by
  have hl : zs.length = n := by have := hA.1; simpa using this
  have HL := Lib.hid hl
  have HNO := Lib.hid hno
  clear hl hno
  go_enter Try.func16, Try.ntmps16
  go_wp2
  go_loop [11] (fun i => ∃ k : Nat, k ≤ n ∧ i = .int .i64 k ∧ (zs.take k).all isR = true) (fun i => n - (intOf i).toNat)
  case atStart => exact ⟨0, Nat.zero_le _, rfl, by simp⟩
  case round =>
    obtain ⟨k, hk, rfl, hall⟩ := hrel
    have HALL := Lib.hid hall
    clear hall
    by_cases hlt : k < n
    · obtain ⟨ad, rfl, _, ha⟩ := hA.2 (by omega)
      obtain ⟨z, hz⟩ : ∃ z, zs[k]? = some z := ⟨zs[k]'(by have := HL.out; omega), List.getElem?_eq_getElem _⟩
      have c1 := ha k (.int .i32 z) (by simp [hz])
      have HZ := Lib.hid hz
      clear ha hz hA
      by_cases hr : isR z = true
      · go_wp2_with (go_at_call 26; refine (valid_rune z _).mono ?_; rintro e w' ⟨rfl, rfl⟩)
        exact ⟨⟨k + 1, by omega, by go_num, all_next zs k z HZ.out HALL.out hr⟩, by simp [intOf]; omega⟩
      · have hr' : isR z = false := by simpa using hr
        clear hr
        go_wp2_with (go_at_call 26; refine (valid_rune z _).mono ?_; rintro e w' ⟨rfl, rfl⟩)
        go_ret2
        exact ⟨rfl, rfl⟩
    · exfalso
      have h1 := HALL.out
      rw [List.take_of_length_le (by rw [HL.out]; omega), HNO.out] at h1
      cases h1
end Go.Proofs.Ytbfgekfajbbdaaa
