import Derived.Test.YtbfgekfajbbdaaaWalksJ
set_option linter.unusedVariables false
set_option linter.unusedSimpArgs false
namespace Go.Proofs.Ytbfgekfajbbdaaa
open Go.RowKit
/-- A number that can be a text's rune. -/
def isR (r : Int) : Bool := decide (0 ≤ r) && decide (r < 55296) || decide (57343 < r) && decide (r ≤ 1114111)
/-- A rune's bytes. -/
def encL (r : Nat) : List UInt8 :=
  if r < 128 then [UInt8.ofNat r] else if r < 2048 then [UInt8.ofNat (192 + r / 64), UInt8.ofNat (128 + r % 64)]
  else if r < 65536 then [UInt8.ofNat (224 + r / 4096), UInt8.ofNat (128 + r / 64 % 64), UInt8.ofNat (128 + r % 64)]
  else [UInt8.ofNat (240 + r / 262144), UInt8.ofNat (128 + r / 4096 % 64), UInt8.ofNat (128 + r / 64 % 64), UInt8.ofNat (128 + r % 64)]
theorem encL_len (r : Nat) : 1 ≤ (encL r).length ∧ (encL r).length ≤ 4 := by unfold encL; repeat' split
                                                                             all_goals simp
theorem u8 (x : Nat) (h : x < 256) : (UInt8.ofNat x).toNat = x := by simp; omega
theorem byteCells_app (a b : List UInt8) : Lib.byteCells (a ++ b) = Lib.byteCells a ++ Lib.byteCells b := by simp [Lib.byteCells]
set_option maxRecDepth 100000 in
theorem append_any (B : Nat) (v : Value) (n : Nat) (xs : List Value) (r : Nat) (hr : isR r = true) (w : World) (hown : w.ownsRow B 5 1 v n xs) (hlen : n ≤ 4294967296) (hBw : B ≤ w.heap.size) :
    Calls Try.prog 37 #[v, .int .i32 r] w fun e w' => ∃ v', e = .returned v' ∧ w'.ownsRow B 5 1 v' (n + (encL r).length) (xs ++ Lib.byteCells (encL r)) ∧ ∃ o, (w.alloc o).grownBy w' v.ownBlock := by
  have hr' : (0 ≤ (r : Int) ∧ (r : Int) < 55296) ∨ (57343 < (r : Int) ∧ (r : Int) ≤ 1114111) := by simpa [isR] using hr
  by_cases h1 : r < 128
  · have e : encL r = [UInt8.ofNat r] := by unfold encL; rw [if_pos h1]
    have e2 : Lib.byteCells (encL r) = [.int .u8 r] := by rw [e]; simp only [Lib.byteCells, List.map_cons, List.map_nil, u8 r (by omega)]
    rw [e2, e]
    exact append1 B v n xs r (by omega) (by omega) w hown hlen hBw
  · by_cases h2 : r < 2048
    · have e : encL r = [UInt8.ofNat (192 + r / 64), UInt8.ofNat (128 + r % 64)] := by unfold encL; rw [if_neg h1, if_pos h2]
      have e2 : Lib.byteCells (encL r) = [.int .u8 (192 + (r : Int) / 64), .int .u8 (128 + (r : Int) % 64)] := by
        rw [e]; simp only [Lib.byteCells, List.map_cons, List.map_nil, u8 (192 + r / 64) (by omega), u8 (128 + r % 64) (by omega)]; rfl
      rw [e2, e]
      exact append2 B v n xs r (by omega) (by omega) w hown hlen hBw
    · by_cases h3 : r < 65536
      · have e : encL r = [UInt8.ofNat (224 + r / 4096), UInt8.ofNat (128 + r / 64 % 64), UInt8.ofNat (128 + r % 64)] := by unfold encL; rw [if_neg h1, if_neg h2, if_pos h3]
        have e2 : Lib.byteCells (encL r) = [.int .u8 (224 + (r : Int) / 4096), .int .u8 (128 + (r : Int) / 64 % 64), .int .u8 (128 + (r : Int) % 64)] := by
          rw [e]; simp only [Lib.byteCells, List.map_cons, List.map_nil, u8 (224 + r / 4096) (by omega), u8 (128 + r / 64 % 64) (by omega), u8 (128 + r % 64) (by omega)]; rfl
        rw [e2, e]
        by_cases h4 : r < 55296
        · exact append3a B v n xs r (by omega) (by omega) w hown hlen hBw
        · exact append3b B v n xs r (by omega) (by omega) w hown hlen hBw
      · have e : encL r = [UInt8.ofNat (240 + r / 262144), UInt8.ofNat (128 + r / 4096 % 64), UInt8.ofNat (128 + r / 64 % 64), UInt8.ofNat (128 + r % 64)] := by unfold encL; rw [if_neg h1, if_neg h2, if_neg h3]
        have e2 : Lib.byteCells (encL r) = [.int .u8 (240 + (r : Int) / 262144), .int .u8 (128 + (r : Int) / 4096 % 64), .int .u8 (128 + (r : Int) / 64 % 64), .int .u8 (128 + (r : Int) % 64)] := by
          rw [e]; simp only [Lib.byteCells, List.map_cons, List.map_nil, u8 (240 + r / 262144) (by omega), u8 (128 + r / 4096 % 64) (by omega), u8 (128 + r / 64 % 64) (by omega), u8 (128 + r % 64) (by omega)]; rfl
        rw [e2, e]
        exact append4 B v n xs r (by omega) (by omega) w hown hlen hBw
theorem check_any (B b : Nat) (bs : List Value) (w : World) (h : Lib.IsBuilder 43 5 B b bs w) :
    Calls Try.prog 36 #[.pointer (some ⟨b, 0, none⟩)] w fun e w' => e = .returned (.tuple #[]) ∧ Lib.BuilderAt 43 5 B b (.pointer (some ⟨b, 0, none⟩)) bs w' ∧ Below B w w' := by
  rcases h with h | h
  · refine (check_fresh b w h.cell0 h.shape h.frozen0).mono ?_
    rintro e w' ⟨rfl, rfl⟩
    exact ⟨rfl, h.used _, (Below.refl B w).setCell (p := ⟨b, 0, none⟩) h.1 _⟩
  · refine (check_used b w h.cell0).mono ?_
    rintro e w' ⟨rfl, rfl⟩
    exact ⟨rfl, h, Below.refl B _⟩
set_option maxHeartbeats 2000000 in
set_option maxRecDepth 100000 in
theorem write_rune (B b : Nat) (l : List UInt8) (r : Nat) (hr : isR r = true) (w : World) (h : Lib.IsBuilder 43 5 B b (Lib.byteCells l) w) (hlen : l.length ≤ 4294967296) (hBw : B ≤ w.heap.size) :
    Calls Try.prog 27 #[.pointer (some ⟨b, 0, none⟩), .int .i32 r] w fun e w' => (∃ k : Int, e = .returned (.tuple #[.int .i64 k, .nilIface])) ∧ Lib.IsBuilder 43 5 B b (Lib.byteCells (l ++ encL r)) w' ∧ Below B w w' := by
  have hk4 := encL_len r
  have hbl : (Lib.byteCells l).length = l.length := Lib.byteCells_length l
  have HBL := Lib.hid hbl
  go_enter Try.func27, Try.ntmps27
  go_wp2_with (go_at_call 36; refine (check_any B b _ _ h).mono ?_)
  rintro e w1 ⟨rfl, h1, hb1⟩
  obtain ⟨hB, v, hbk, hown, hne⟩ := h1
  rw [hbl] at hown
  clear hbl
  have hex : ∃ ao cap, v = .slice ao l.length cap := by
    rcases hown.2 with ⟨hv, h0⟩ | ⟨g, cap, cur, hv, _⟩
    · exact ⟨none, 0, by rw [hv, h0]⟩
    · exact ⟨_, _, hv⟩
  obtain ⟨ao, cap, rfl⟩ := hex
  have c0 : w1.cell? ⟨b, 0, none⟩ = some (.pointer (some ⟨b, 0, none⟩)) := by rw [Lib.cell_of_heap hbk]; rfl
  have c1 : w1.cell? ⟨b, 1, none⟩ = some (.slice ao l.length cap) := by rw [Lib.cell_of_heap hbk]; rfl
  go_wp2_with (go_at_call 37; refine (append_any B _ l.length _ r hr _ hown hlen (by have := hb1.size; omega)).mono ?_)
  rintro e w2 ⟨v', rfl, hown', o, hgrow⟩
  have hlt : b < w1.heap.size := (Array.getElem?_eq_some_iff.1 hbk).1
  have hb2 : w2.heap[b]? = some (.cells #[.pointer (some ⟨b, 0, none⟩), .slice ao l.length cap] 43 (0, 0)) := by
    rw [hgrow.block b (by simp; omega) (fun e => hne e.symm), Below.heap_alloc w1 _ b hlt]
    exact hbk
  have d0 : w2.cell? ⟨b, 0, none⟩ = some (.pointer (some ⟨b, 0, none⟩)) := by rw [Lib.cell_of_heap hb2]; rfl
  have d1 : w2.cell? ⟨b, 1, none⟩ = some (.slice ao l.length cap) := by rw [Lib.cell_of_heap hb2]; rfl
  have f1 : w2.frozen? ⟨b, 1, none⟩ = false := Lib.frozen_of_heap hb2 1
  have hex : ∃ g cap', v' = .slice (some ⟨g, 0, none⟩) (l.length + (encL r).length) cap' := by
    rcases hown'.2 with ⟨_, h0⟩ | ⟨g, cap', cur, hv, _⟩
    · omega
    · exact ⟨g, cap', hv⟩
  obtain ⟨g, cap', rfl⟩ := hex
  go_wp2
  go_ret2
  refine ⟨⟨_, rfl⟩, .inr ?_, ?_⟩
  · exact Lib.BuilderAt.put (T := 43) (e := 5) hB hb2 (bs' := Lib.byteCells (l ++ encL r)) (by rw [byteCells_app, List.length_append, HBL.out, Lib.byteCells_length]; exact hown') (by decide)
  · exact ((hb1.alloc (by have := hb1.size; omega) _).grown hgrow (by have := hb1.size; simp; omega) (fun k hk => (hown.lt k hk).1)).setCell (p := ⟨b, 1, none⟩) hB _
end Go.Proofs.Ytbfgekfajbbdaaa
