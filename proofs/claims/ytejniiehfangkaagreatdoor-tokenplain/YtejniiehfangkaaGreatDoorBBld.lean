/- Builders, blanks and indents: strings.Builder's WriteString, block's blanksAhead, blank, and the document's own first. -/
import Derived.Test.YtejniiehfangkaaGreatDoorBLinA
import Derived.Test.YtejniiehfangkaaGreatDoorBPlain
import Derived.Test.YtejniiehfangkaaGreatDoorBShelf
import Derived.Lib.Builder
import Derived.Lib.FrozenHead2
import Derived.Laws.Externs
import Derived.Laws.BitsLemmas
import Derived.Lib.AppendStr
set_option linter.unusedVariables false
set_option linter.unusedSimpArgs false
namespace Go.Proofs.YtejniiehfangkaaGreatDoor.Bk
open Go.RowKit
theorem byteCells_app (a b : List UInt8) : Lib.byteCells (a ++ b) = Lib.byteCells a ++ Lib.byteCells b := by simp [Lib.byteCells]
/-- bytealg's variable holds some number. -/
def MaxL (w : World) : Prop := ∃ m : Int, w.cell? ⟨2, 0, none⟩ = some (.int .i64 m)
theorem MaxL.lt {w : World} (h : MaxL w) : 2 < w.heap.size := by
  obtain ⟨m, hm⟩ := h
  rcases Nat.lt_or_ge 2 w.heap.size with hl | hl
  · exact hl
  · unfold World.cell? at hm
    rw [Array.getElem?_eq_none hl] at hm
    cases hm
theorem MaxL.below {w w' : World} {B : Nat} (h : MaxL w) (hb : Below B w w') (hB : w.heap.size ≤ B) : MaxL w' := by
  have hl := h.lt
  obtain ⟨m, hm⟩ := h
  exact ⟨m, (hb.cell (p := ⟨2, 0, none⟩) (by show 2 < B; omega)).trans hm⟩
theorem MaxL.above {w w' : World} {B : Nat} (h : MaxL w) (hb : Below B w w') (hB : 2 < B) : MaxL w' := by
  obtain ⟨m, hm⟩ := h
  exact ⟨m, (hb.cell (p := ⟨2, 0, none⟩) hB).trans hm⟩
theorem Below_next {w w1 w2 : World} (h : Below w.heap.size w w1) (k : Below w1.heap.size w1 w2) : Below w.heap.size w w2 := h.trans (k.mono h.size)
theorem sizeB : (Tryz.prog.info? 52).map (·.size) = some 2 := by kernel_rfl
theorem liesB : liesAt Tryz.prog Tryz.prog.depth 52 (2 / Tryz.prog.cellsOf 52) 0 52 1 = true := by kernel_rfl
set_option maxHeartbeats 1000000 in
set_option maxRecDepth 100000 in
theorem check_used (b : Nat) (w : World) (h0 : w.cell? ⟨b, 0, none⟩ = some (.pointer (some ⟨b, 0, none⟩))) :
    Calls Tryz.prog 50 #[.pointer (some ⟨b, 0, none⟩)] w fun e w' => e = .returned (.tuple #[]) ∧ w = w' := by
  obtain ⟨j, hj, _⟩ := Option.map_eq_some_iff.1 sizeB
  have hne := fun w => Lib.run_neq_ptr_same (P := Tryz.prog) w ⟨b, 0, none⟩ Tryz.underlying50 hj
  go_enter Tryz.func50, Tryz.ntmps50
  go_wp2
  go_end0
  exact ⟨rfl, rfl⟩
set_option maxHeartbeats 1000000 in
set_option maxRecDepth 100000 in
theorem check_fresh (b : Nat) (w : World) (h0 : w.cell? ⟨b, 0, none⟩ = some (.pointer none)) (hsh : w.shape? b = some (52, 2)) (hfz : w.frozen? ⟨b, 0, none⟩ = false) :
    Calls Tryz.prog 50 #[.pointer (some ⟨b, 0, none⟩)] w fun e w' => e = .returned (.tuple #[]) ∧ w.setCell ⟨b, 0, none⟩ (.pointer (some ⟨b, 0, none⟩)) = w' := by
  obtain ⟨j, hj, hjs⟩ := Option.map_eq_some_iff.1 sizeB
  go_enter Tryz.func50, Tryz.ntmps50
  go_wp2
  rw [Lib.run_to_unsafe w ⟨b, 0, none⟩ Tryz.underlying50 Tryz.underlying90 hj (by rw [hjs]; decide) hsh (Nat.zero_lt_succ 1)]
  simp only [Result.andThen]
  rw [Oper.upon_value]
  go_wp2
  rw [run_callFunc_extern Tryz.func71 (by kernel_rfl) (by kernel_rfl) (by kernel_rfl) (e := Extern.AbiNoEscape.same) (by kernel_rfl)]
  rw [Lib.run_noEscape]
  simp only [Result.andThen]
  rw [Oper.upon_value]
  go_wp2
  rw [Lib.run_from_unsafe w ⟨b, 0, none⟩ Tryz.underlying90 Tryz.underlying50 hj hsh liesB]
  simp only [Result.andThen]
  rw [Oper.upon_value]
  go_wp2
  go_end0
  exact ⟨rfl, rfl⟩
theorem check_any (B b : Nat) (bs : List Value) (w : World) (h : Lib.IsBuilder 52 5 B b bs w) :
    Calls Tryz.prog 50 #[.pointer (some ⟨b, 0, none⟩)] w fun e w' => e = .returned (.tuple #[]) ∧ Lib.BuilderAt 52 5 B b (.pointer (some ⟨b, 0, none⟩)) bs w' ∧ Below B w w' := by
  rcases h with h | h
  · refine (check_fresh b w h.cell0 h.shape h.frozen0).mono ?_
    rintro e w' ⟨rfl, rfl⟩
    exact ⟨rfl, h.used _, (Below.refl B w).setCell (p := ⟨b, 0, none⟩) h.1 _⟩
  · refine (check_used b w h.cell0).mono ?_
    rintro e w' ⟨rfl, rfl⟩
    exact ⟨rfl, h, Below.refl B _⟩
/-- A builder's value, as the walk has it. -/
theorem own_slice {w : World} {B : Nat} {e : TypeId} {v : Value} {n : Nat} {xs : List Value} (hown : w.ownsRow B e 1 v n xs) : ∃ ao cap, v = .slice ao n cap := by
  rcases hown.2 with ⟨hv, h0⟩ | ⟨g, cap, cur, hv, _⟩
  · exact ⟨none, 0, by rw [hv, h0]⟩
  · exact ⟨_, _, hv⟩
theorem strCells_bytes (s : ByteArray) : Lib.strCells s = Lib.byteCells s.data.toList := by
  first | rfl | (unfold Lib.strCells Lib.byteCells; simp)
set_option maxHeartbeats 2000000 in
set_option maxRecDepth 100000 in
theorem write_string (B b : Nat) (l : List UInt8) (s : ByteArray) (w : World) (h : Lib.IsBuilder 52 5 B b (Lib.byteCells l) w) (hlen : l.length ≤ 4294967296) (hs : s.size ≤ 4294967296) (hBw : B ≤ w.heap.size) :
    Calls Tryz.prog 28 #[.pointer (some ⟨b, 0, none⟩), .string s] w fun e w' => e = .returned (.tuple #[.int .i64 s.size, .nilIface]) ∧ Lib.IsBuilder 52 5 B b (Lib.byteCells (l ++ s.data.toList)) w' ∧ Below B w w' := by
  obtain ⟨i0, hi, hz0, hz1, hz2⟩ := info_parts info5
  have hbl : (Lib.byteCells l).length = l.length := Lib.byteCells_length l
  have HBL := Lib.hid hbl
  go_enter Tryz.func28, Tryz.ntmps28
  go_wp2_with (go_at_call 50; refine (check_any B b _ _ h).mono ?_)
  rintro e w1 ⟨rfl, h1, hb1⟩
  obtain ⟨hB, v, hbk, hown, hne⟩ := h1
  rw [hbl] at hown
  clear hbl
  obtain ⟨ao, cap, rfl⟩ := own_slice hown
  have c0 : w1.cell? ⟨b, 0, none⟩ = some (.pointer (some ⟨b, 0, none⟩)) := by rw [Lib.cell_of_heap hbk]; rfl
  have c1 : w1.cell? ⟨b, 1, none⟩ = some (.slice ao l.length cap) := by rw [Lib.cell_of_heap hbk]; rfl
  go_wp2_with (at_builtin; refine Lib.wpList_append_own_string _ rfl _ _ 34 9 rfl B 5 i0 Tryz.underlying34 Tryz.underlying9 hi hz0 hz1 hz2 _ _ _ rfl hown s rfl ?c3 ?c4 ?c5 ?_)
  case c3 => unfold maxLen; omega
  case c4 => omega
  case c5 => have := hb1.size; omega
  intro v' w2 hown' hgrow _
  have hlt : b < w1.heap.size := (Array.getElem?_eq_some_iff.1 hbk).1
  have hb2 : w2.heap[b]? = some (.cells #[.pointer (some ⟨b, 0, none⟩), .slice ao l.length cap] 52 (0, 0)) := by
    rw [hgrow.block b hlt (fun e => hne e.symm)]
    exact hbk
  have d0 : w2.cell? ⟨b, 0, none⟩ = some (.pointer (some ⟨b, 0, none⟩)) := by rw [Lib.cell_of_heap hb2]; rfl
  have d1 : w2.cell? ⟨b, 1, none⟩ = some (.slice ao l.length cap) := by rw [Lib.cell_of_heap hb2]; rfl
  have f1 : w2.frozen? ⟨b, 1, none⟩ = false := Lib.frozen_of_heap hb2 1
  obtain ⟨ao', cap', rfl⟩ := own_slice hown'
  go_wp2
  go_ret2
  refine ⟨rfl, .inr ?_, ?_⟩
  · exact Lib.BuilderAt.put (T := 52) (e := 5) hB hb2 (bs' := Lib.byteCells (l ++ s.data.toList)) (by rw [byteCells_app, List.length_append, HBL.out, Lib.byteCells_length, ← strCells_bytes, ← Lib.size_eq]; exact hown') (by decide)
  · exact (hb1.grown hgrow (by have := hb1.size; omega) (fun k hk => (hown.lt k hk).1)).setCell (p := ⟨b, 1, none⟩) hB _
theorem blanks_any (s : ByteArray) (hs : s.size ≤ 4294967296) (w : World) : Calls Tryz.prog 98 #[.string s] w fun e w' => e = .returned (.int .i64 (ahd s.data.toList)) ∧ Below w.heap.size w w' := by
  have hc := Tryz.strings_TrimLeft_blanks s w
  have hl := ahd_le s.data.toList
  rw [← Lib.size_eq] at hl
  have hz : (⟨(Lib.trimLeftS s.data.toList [32, 9]).toArray⟩ : ByteArray).size = s.size - ahd s.data.toList := by
    rw [Lib.size_eq]
    show (Lib.trimLeftS s.data.toList [32, 9]).toArray.toList.length = _
    rw [List.toList_toArray]; unfold Lib.trimLeftS; rw [ahd_drop, List.length_drop, ← Lib.size_eq]
  generalize (⟨(Lib.trimLeftS s.data.toList [32, 9]).toArray⟩ : ByteArray) = r at hc hz
  have HC := Lib.hid hc
  have hr : ((s.size : Int) - r.size) = ahd s.data.toList := by omega
  have hrs : r.size ≤ s.size := by omega
  have HR := Lib.hid hr
  clear hc hz hr hl
  go_enter Tryz.func98, Tryz.ntmps98
  go_wp2_with (go_at_call 113; refine HC.out.mono ?_; rintro e w1 ⟨rfl, hb⟩)
  go_ret
  exact ⟨ret_int HR.out, hb⟩
theorem blank_any (s : ByteArray) (hs : s.size ≤ 4294967296) (w : World) : Calls Tryz.prog 100 #[.string s] w fun e w' => e = .returned (.bool (blk s.data.toList)) ∧ Below w.heap.size w w' := by
  have hl := ahd_le s.data.toList
  rw [← Lib.size_eq] at hl
  have hc := blanks_any s hs w
  have he : blk s.data.toList = (((ahd s.data.toList : Nat) : Int) == (s.size : Int)) := by unfold blk; rw [← Lib.size_eq, Bool.eq_iff_iff]; simp; omega
  rw [he]
  generalize ahd s.data.toList = a at *
  have HC := Lib.hid hc
  clear hc he
  go_enter Tryz.func100, Tryz.ntmps100
  go_wp2_with (go_at_call 98; refine HC.out.mono ?_; rintro e w1 ⟨rfl, hb⟩)
  go_ret
  exact ⟨rfl, hb⟩
/-- All blanks up to k. -/
def Bls (l : List UInt8) (k : Nat) : Prop := ∀ j, j < k → ∃ c, l[j]? = some c ∧ bl c = true
theorem byte_at (s : ByteArray) (k : Nat) (h : k < s.size) : s.data.toList[k]? = some s[k] := by
  rw [List.getElem?_eq_getElem (by rw [← Lib.size_eq]; exact h)]; rfl
theorem bl_no (c : UInt8) (h1 : c.toNat ≠ 32) (h2 : c.toNat ≠ 9) : bl c = false := by
  unfold bl; rw [Bool.eq_false_iff]; intro h; simp at h
  rcases h with rfl | rfl
  · exact h1 rfl
  · exact h2 rfl
theorem bl_yes (c : UInt8) (h : c.toNat = 32 ∨ c.toNat = 9) : bl c = true := by
  rcases h with h | h
  · obtain rfl : c = 32 := UInt8.toNat_inj.1 h
    rfl
  · obtain rfl : c = 9 := UInt8.toNat_inj.1 h
    rfl
theorem Bls.next {s : ByteArray} {k : Nat} (h : Bls s.data.toList k) (hk : k < s.size) (hb : s[k].toNat = 32 ∨ s[k].toNat = 9) : Bls s.data.toList (k + 1) := by
  intro j hj
  rcases Nat.lt_or_ge j k with h1 | h1
  · exact h j h1
  · obtain rfl : j = k := by omega
    exact ⟨_, byte_at s j hk, bl_yes _ hb⟩
theorem first_any (s : ByteArray) (hs : s.size ≤ 4294967296) (w : World) : Calls Tryz.prog 87 #[.string s] w fun e w' => e = .returned (.int .i64 (ahd s.data.toList)) ∧ w = w' := by
  go_enter Tryz.func87, Tryz.ntmps87
  go_wp2
  go_loop [3] (fun i => ∃ k : Nat, k ≤ s.size ∧ i = .int .i64 k ∧ Bls s.data.toList k) (fun i => s.size - (intOf i).toNat)
  case atStart => exact ⟨0, Nat.zero_le _, rfl, fun j hj => by omega⟩
  case round =>
    obtain ⟨k, hk, rfl, hb⟩ := hrel
    have HB := Lib.hid hb
    clear hb
    by_cases hlt : k < s.size
    · by_cases h32 : s[k].toNat = 32
      · have HN := Lib.hid (HB.out.next hlt (.inl h32))
        have hz : ((s[k].toNat : Int) != 32) = false := by rw [h32]; rfl
        clear h32
        go_wp2
        exact ⟨⟨k + 1, by omega, by go_num, HN.out⟩, by simp [intOf]; omega⟩
      · by_cases h9 : s[k].toNat = 9
        · have HN := Lib.hid (HB.out.next hlt (.inr h9))
          have hz : ((s[k].toNat : Int) != 32) = true := by rw [bne_iff_ne]; omega
          have hz2 : ((s[k].toNat : Int) != 9) = false := by rw [h9]; rfl
          clear h9 h32
          go_wp2
          exact ⟨⟨k + 1, by omega, by go_num, HN.out⟩, by simp [intOf]; omega⟩
        · have HN := Lib.hid (bl_no _ h32 h9)
          have hz : ((s[k].toNat : Int) != 32) = true := by rw [bne_iff_ne]; omega
          have hz2 : ((s[k].toNat : Int) != 9) = true := by rw [bne_iff_ne]; omega
          clear h9 h32
          go_wp2
          go_ret
          refine ⟨ret_int ?_, rfl⟩
          rw [ahd_at s.data.toList k (by rw [← Lib.size_eq]; omega) HB.out (fun c hc => by rw [byte_at s k hlt] at hc; cases hc; exact HN.out)]
    · go_wp2
      go_ret
      refine ⟨ret_int ?_, rfl⟩
      rw [ahd_at s.data.toList k (by rw [← Lib.size_eq]; omega) HB.out (fun c hc => by rw [List.getElem?_eq_none (by rw [← Lib.size_eq]; omega)] at hc; cases hc)]
      omega
end Go.Proofs.YtejniiehfangkaaGreatDoor.Bk
