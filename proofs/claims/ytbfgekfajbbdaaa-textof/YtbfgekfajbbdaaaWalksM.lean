import Derived.Test.YtbfgekfajbbdaaaWalksL
set_option linter.unusedVariables false
set_option linter.unusedSimpArgs false
namespace Go.Proofs.Ytbfgekfajbbdaaa
open Go.RowKit
theorem isR_nat (z : Int) (h : isR z = true) : ((z.toNat : Nat) : Int) = z ∧ isR (z.toNat : Nat) = true := by
  have e : ((z.toNat : Nat) : Int) = z := by simp [isR] at h; omega
  exact ⟨e, by rw [e]; exact h⟩
theorem all_at (zs : List Int) (k : Nat) (z : Int) (h : zs[k]? = some z) (ha : zs.all isR = true) : isR z = true := by
  rw [List.all_eq_true] at ha
  exact ha z (List.mem_of_getElem? h)
theorem write_rune_z (B b : Nat) (l : List UInt8) (z : Int) (hr : isR z = true) (w : World) (h : Lib.IsBuilder 43 5 B b (Lib.byteCells l) w) (hlen : l.length ≤ 4294967296) (hBw : B ≤ w.heap.size) :
    Calls Try.prog 27 #[.pointer (some ⟨b, 0, none⟩), .int .i32 z] w fun e w' => (∃ k : Int, e = .returned (.tuple #[.int .i64 k, .nilIface])) ∧ Lib.IsBuilder 43 5 B b (Lib.byteCells (l ++ encL z.toNat)) w' ∧ Below B w w' := by
  have hz := isR_nat z hr
  have k := write_rune B b l z.toNat hz.2 w h hlen hBw
  rw [hz.1] at k
  exact k
set_option maxHeartbeats 2000000 in
set_option maxRecDepth 100000 in
theorem of_yes (A : Option Addr) (n c : Nat) (zs : List Int) (w : World) (hn : n ≤ 1048576) (hA : Rd w A n (zs.map (Value.int .i32))) (hyes : zs.all isR = true) :
    Calls Try.prog 16 #[.slice A n c] w fun e w' => e = .returned (.tuple #[.string ⟨(ofS zs).toArray⟩, .int .i64 0]) ∧ Below w.heap.size w w' := by
  have hl : zs.length = n := by have := hA.1; simpa using this
  have HL := Lib.hid hl
  have HYES := Lib.hid hyes
  clear hl hyes
  go_enter Try.func16, Try.ntmps16
  go_wp2
  go_loop [11] (fun i => ∃ k : Nat, k ≤ n ∧ i = .int .i64 k) (fun i => n - (intOf i).toNat)
  case atStart => exact ⟨0, Nat.zero_le _, rfl⟩
  case round =>
    obtain ⟨k, hk, rfl⟩ := hrel
    by_cases hlt : k < n
    · obtain ⟨ad, rfl, _, ha⟩ := hA.2 (by omega)
      obtain ⟨z, hz⟩ : ∃ z, zs[k]? = some z := ⟨zs[k]'(by have := HL.out; omega), List.getElem?_eq_getElem _⟩
      have c1 := ha k (.int .i32 z) (by simp [hz])
      have hr := all_at zs k z hz HYES.out
      clear ha hz hA
      go_wp2_with (go_at_call 26; refine (valid_rune z _).mono ?_; rintro e w' ⟨rfl, rfl⟩)
      exact ⟨⟨k + 1, by omega, by go_num⟩, by simp [intOf]; omega⟩
    · go_wp2
      go_loopw [21] (fun i wr => ∃ k : Nat, k ≤ n ∧ i = .int .i64 k ∧ Lib.IsBuilder 43 5 w.heap.size w.heap.size (Lib.byteCells (ofS (zs.take k))) wr ∧ Below w.heap.size w wr) (fun i _ => n - (intOf i).toNat)
      case atStart => exact ⟨0, Nat.zero_le _, rfl, Lib.fresh_isBuilder 43 5 w, (Below.refl _ _).alloc (Nat.le_refl _) _⟩
      case round =>
        obtain ⟨k, hk, rfl, hI, hb⟩ := hrel
        have hbs := hb.size
        by_cases hlt : k < n
        · obtain ⟨ad, rfl, hadb, ha⟩ := hA.2 (by omega)
          obtain ⟨z, hz⟩ : ∃ z, zs[k]? = some z := ⟨zs[k]'(by have := HL.out; omega), List.getElem?_eq_getElem _⟩
          have c1 := (hb.cell (by rw [add_block]; exact hadb)).trans (ha k (.int .i32 z) (by simp [hz]))
          have hr := all_at zs k z hz HYES.out
          have HT := Lib.hid (take_next zs k z hz)
          have hlen : (ofS (zs.take k)).length ≤ 4294967296 := by have := ofS_len (zs.take k); rw [List.length_take] at this; omega
          clear ha hz
          go_wp2_with (go_at_call 27; refine (write_rune_z _ _ _ z hr _ hI hlen hbs).mono ?_; rintro e w' ⟨⟨q, rfl⟩, hI', hb'⟩)
          exact ⟨⟨k + 1, by omega, by go_num, by rw [HT.out, ofS_snoc]; exact hI', hb.trans hb'⟩, by simp [intOf]; omega⟩
        · go_wp2_with (go_at_call 28; refine (Try.Builder_String_any _ _ _ _ hI hbs).mono ?_; rintro e w' ⟨rfl, hb'⟩)
          go_ret2
          rw [List.take_of_length_le (by rw [HL.out]; omega)]
          exact ⟨rfl, hb.trans hb'⟩
end Go.Proofs.Ytbfgekfajbbdaaa
