import Derived.Test.YtbfgekfajbbdaaaWalksN
set_option linter.unusedVariables false
set_option linter.unusedSimpArgs false
namespace Go.Proofs.Ytbfgekfajbbdaaa
open Go.RowKit
/-- What Of tells: the text's bytes and the error's number. -/
def ofR (zs : List Int) : ByteArray × Int := if zs.all isR then (⟨(ofS zs).toArray⟩, 0) else (⟨#[]⟩, 2)
theorem mk_app (a b : List UInt8) : (⟨a.toArray⟩ : ByteArray) ++ ⟨b.toArray⟩ = ⟨(a ++ b).toArray⟩ := by
  apply ByteArray.ext
  have := Joins.data_append ⟨a.toArray⟩ ⟨b.toArray⟩
  exact Array.toList_inj.1 this
set_option maxHeartbeats 2000000 in
set_option maxRecDepth 100000 in
theorem of_ref (A : Option Addr) (n c : Nat) (zs : List Int) (w : World) (hn : n ≤ 1048576) (hzb : ∀ z ∈ zs, -2147483648 ≤ z ∧ z ≤ 2147483647) (hA : Rd w A n (zs.map (Value.int .i32))) :
    Calls Try.prog 17 #[.slice A n c] w fun e w' => e = .returned (.tuple #[.string (ofR zs).1, .int .i64 (ofR zs).2]) ∧ Below w.heap.size w w' := by
  have hl : zs.length = n := by have := hA.1; simpa using this
  have HL := Lib.hid hl
  have HZB := Lib.hid hzb
  clear hl hzb
  go_enter Try.func17, Try.ntmps17
  go_wp2
  go_loopw [4, 5] (fun s i wr => ∃ k : Nat, k ≤ n ∧ i = .int .i64 k ∧ s = .string ⟨(ofS (zs.take k)).toArray⟩ ∧ (zs.take k).all isR = true ∧ Below w.heap.size w wr) (fun _ i _ => n - (intOf i).toNat)
  case atStart => exact ⟨0, Nat.zero_le _, rfl, rfl, by simp, Below.refl _ _⟩
  case round =>
    obtain ⟨k, hk, rfl, rfl, hall, hb⟩ := hrel
    have HALL := Lib.hid hall
    clear hall
    by_cases hlt : k < n
    · obtain ⟨ad, rfl, hadb, ha⟩ := hA.2 (by omega)
      obtain ⟨z, hz⟩ : ∃ z, zs[k]? = some z := ⟨zs[k]'(by have := HL.out; omega), List.getElem?_eq_getElem _⟩
      have c1 := (hb.cell (by rw [add_block]; exact hadb)).trans (ha k (.int .i32 z) (by simp [hz]))
      have hzb := HZB.out z (List.mem_of_getElem? hz)
      have HT := Lib.hid (take_next zs k z hz)
      have HZ := Lib.hid hz
      clear ha hz hA
      have hsl : (ofS (zs.take k)).length ≤ 4194304 := by have := ofS_len (zs.take k); rw [List.length_take] at this; omega
      generalize hS : ofS (zs.take k) = S at *
      have HS := Lib.hid hS
      clear hS
      by_cases hr : isR z = true
      · have hel := (encL_len z.toNat).1
        have hel4 := (encL_len z.toNat).2
        have hne : (encL z.toNat).isEmpty = false := by
          cases h : encL z.toNat
          · rw [h] at hel; simp at hel
          · rfl
        generalize hE : encL z.toNat = E at *
        have HE := Lib.hid hE
        have hct := fun W => rune_yes z hr W
        rw [hE] at hct
        have HCT := Lib.hid hct
        clear hE hct hel
        go_wp2_with (go_at_call 29; refine (HCT.out _).mono ?_; rintro e w' ⟨rfl, hb'⟩)
        exact ⟨⟨k + 1, by omega, by go_num, by rw [mk_app, HT.out, ofS_snoc, HS.out, HE.out], all_next zs k z HZ.out HALL.out hr, hb.trans (hb'.mono hb.size)⟩, by simp [intOf]; omega⟩
      · have hr' : isR z = false := by simpa using hr
        have HN := Lib.hid (all_not zs k z HZ.out hr')
        go_wp2_with (go_at_call 29; refine (rune_no z hzb.1 hzb.2 hr' _).mono ?_; rintro e w' ⟨rfl, rfl⟩)
        go_ret2
        refine ⟨?_, hb⟩
        unfold ofR; rw [HN.out]; rfl
    · go_wp2
      go_ret2
      have e1 : zs.take k = zs := List.take_of_length_le (by rw [HL.out]; omega)
      refine ⟨?_, hb⟩
      have h1 := HALL.out
      rw [e1] at h1 ⊢
      unfold ofR; rw [h1]; rfl
end Go.Proofs.Ytbfgekfajbbdaaa
