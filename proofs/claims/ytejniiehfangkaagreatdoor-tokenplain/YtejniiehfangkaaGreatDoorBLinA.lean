import Derived.Test.YtejniiehfangkaaGreatDoorPlainB
import Derived.Test.YtejniiehfangkaaGreatDoorBBase
import Derived.Lib.SmallJoins
set_option linter.unusedVariables false
set_option linter.unusedSimpArgs false
namespace Go.Proofs.YtejniiehfangkaaGreatDoor.Bk
open Go.RowKit
theorem info9 : (Tryz.prog.info? 9).map (fun i => (i.zero, i.size, i.bytes)) = some (some (.string ⟨#[]⟩), 1, 16) := by kernel_rfl
theorem own_below {w w' : World} {base B : Nat} {e : TypeId} {size : Nat} {v : Value} {n : Nat} {xs : List Value} (h : w.ownsRow base e size v n xs) (hb : Below B w w') (hB : w.heap.size ≤ B) : w'.ownsRow base e size v n xs := by
  refine ⟨h.1, h.2.imp id ?_⟩
  rintro ⟨g, cap, cur, hv, hg, hh, r⟩
  have hlt : g < w.heap.size := (Array.getElem?_eq_some_iff.1 hh).1
  exact ⟨g, cap, cur, hv, hg, (hb.block g (by omega)).trans hh, r⟩
theorem ext_size (s : ByteArray) (a b : Nat) (h : s.size ≤ 4294967296) : (s.extract a b).size ≤ 4294967296 := by
  rw [ByteArray.size_extract]; omega
/-- What a round leaves that puts a line: the relation's limbs behind it. -/
theorem rel_put {w W w2 w3 : World} {k base : Nat} {s x : ByteArray} {pos : Nat} {v v' : Value} {ls : List ByteArray} {o : Obj} (hk : k < base) (hkW : k < W.heap.size) (hit : W.heap[k]? = some (.stringIter s pos)) (hown : w2.ownsRow base 9 1 v ls.length (ls.map Value.string)) (hb : Below k w W) (hb2 : Below W.heap.size W w2)
    (hown' : w3.ownsRow base 9 1 v' (ls.length + 1) (ls.map Value.string ++ [.string x])) (hg : (w2.alloc o).grownBy w3 v.ownBlock) :
    w3.heap[k]? = some (.stringIter s pos) ∧ w3.ownsRow base 9 1 v' (ls ++ [x]).length ((ls ++ [x]).map Value.string) ∧ Below k w w3 ∧ W.heap.size ≤ w3.heap.size := by
  have hne : ∀ j, v.ownBlock = some j → base ≤ j := fun j hj => (hown.lt j hj).1
  have hb3 : Below k (w2.alloc o) w3 := ⟨hg.os, hg.tape, hg.output, hg.size, fun j hj => hg.block j (by have := hb2.size; simp; omega) (fun e => by have := hne j e.symm; omega)⟩
  have e3 : w3.heap[k]? = (w2.alloc o).heap[k]? := hg.block k (by have := hb2.size; simp; omega) (fun e => by have := hne k e.symm; omega)
  refine ⟨?_, by simpa using hown', ((hb.trans (hb2.mono (by omega))).alloc (by have := hb2.size; omega) o).trans hb3, ?_⟩
  · rw [e3, Below.heap_alloc _ _ _ (by have := hb2.size; omega), hb2.block k hkW]; exact hit
  · have := hb2.size; have := hg.size; simp at this; omega
set_option maxHeartbeats 1000000 in
set_option maxRecDepth 100000 in
theorem lines_any (s : ByteArray) (hs : s.size ≤ 4294967296) (w : World) : Calls Tryz.prog 77 #[.string s] w fun e w' => ∃ v, e = .returned v ∧ w'.ownsRow w.heap.size 9 1 v (linesFrom s 0 0).length ((linesFrom s 0 0).map Value.string) ∧ Below w.heap.size w w' := by
  obtain ⟨i0, hi, hz0, hz1, hz2⟩ := info_parts info9
  go_enter Tryz.func77, Tryz.ntmps77
  go_wp2
  go_loopw [3, 4] (fun v f wr => ∃ (pos fr : Nat) (ls : List ByteArray), f = .int .i64 fr ∧ fr ≤ pos ∧ pos ≤ s.size ∧ ls.length ≤ pos ∧ wr.heap[w.heap.size]? = some (.stringIter s pos) ∧
      wr.ownsRow (w.heap.size + 1) 9 1 v ls.length (ls.map Value.string) ∧ Below w.heap.size w wr ∧ w.heap.size + 1 ≤ wr.heap.size ∧ ls ++ linesFrom s fr pos = linesFrom s 0 0) (fun _ _ wr => s.size - wr.iterPos w.heap.size)
  case atStart => exact ⟨0, 0, [], rfl, by omega, by omega, by simp, World.iter_heap _ _ _, World.ownsRow_nil _ _ _ _, (Below.refl _ _).alloc (Nat.le_refl _) _, by simp [World.iter], rfl⟩
  case round =>
    obtain ⟨pos, fr, ls, rfl, hfp, hps, hll, hit, hown, hbel, hsz, hc⟩ := hrel
    have HC := Lib.hid hc
    clear hc
    by_cases hp : pos < s.size
    · have hd := dec_in s pos hp
      have hnx : ∀ ty, (Instr.next (.pointer (some ⟨w.heap.size, 0, none⟩)) true ty).run Tryz.prog wr = _ := fun ty => Lib.run_next_any_at wr w.heap.size s pos ty hit hp
      obtain ⟨W, hW⟩ : ∃ W, W = wr.iterAt w.heap.size s (pos + (Utf8.decode s pos).2) := ⟨_, rfl⟩
      rw [← hW] at hnx
      have hit1 : W.heap[w.heap.size]? = some (.stringIter s (pos + (Utf8.decode s pos).2)) := by rw [hW]; exact Lib.iterAt_heap _ _ _ _ _ hit
      have hown1 := ownsRow_iterAt hown (k := w.heap.size) (by omega) s (pos + (Utf8.decode s pos).2)
      rw [← hW] at hown1
      have hbel1 : Below w.heap.size w W := by rw [hW]; exact Lib.below_iterAt hbel (Nat.le_refl _) _ _
      have hsz1 : w.heap.size + 1 ≤ W.heap.size := by rw [hW, Lib.iterAt_size]; exact hsz
      have hmeas : s.size - (pos + (Utf8.decode s pos).2) < s.size - wr.iterPos w.heap.size := by rw [iterPos_of hit]; omega
      have HM := Lib.hid hmeas
      clear hW hit hown hbel hsz hmeas
      by_cases h13 : (Utf8.decode s pos).1 = 13
      · obtain ⟨hb0, hw0⟩ := dec_small s pos hp (by omega)
        rw [h13] at hnx hb0
        rw [hw0] at hit1 HM
        have HR := Lib.hid (lf_cut s fr pos hp (.inl hb0))
        clear h13 hw0 hb0 hd
        go_wp2_with (first | (go_at_call 55; refine (clone_any (s.extract fr pos) (ext_size s fr pos hs) _).mono ?_; rintro e w2 ⟨rfl, hb2⟩; have hown2 := own_below hown1 hb2 (Nat.le_refl _)) | (at_builtin; refine wpList_append_own _ rfl _ _ 62 rfl (w.heap.size + 1) 9 i0 (.string ⟨#[]⟩) 1 16 Tryz.underlying62 hi hz0 hz1 hz2 rfl (by decide) _ _ _ rfl (hown2.alloc _) ⟨w2.heap.size, 0, none⟩ 1 1 [.string (s.extract fr pos)] rfl rfl (cell_one_new _ _ _) (by simp [Value.oneCell']) (by unfold maxLen; omega) (by omega) (by have := hb2.size; simp; omega) ?_; intro v' w3 hown3 hgrow _))
        go_roundw
        case rel =>
          obtain ⟨r1, r2, r3, r4⟩ := rel_put (by omega) (by omega) hit1 hown2 hbel1 hb2 hown3 hgrow
          exact ⟨pos + 1, pos + 1, ls ++ [s.extract fr pos], by go_num, by omega, by omega, by simp only [List.length_append, List.length_singleton]; omega, r1, r2, r3, by omega, by rw [← HC.out, HR.out]; simp⟩
        case measure =>
          obtain ⟨r1, r2, r3, r4⟩ := rel_put (by omega) (by omega) hit1 hown2 hbel1 hb2 hown3 hgrow
          simp only [iterPos_of r1]; exact HM.out
      · by_cases h10 : (Utf8.decode s pos).1 = 10
        · obtain ⟨hb0, hw0⟩ := dec_small s pos hp (by omega)
          rw [h10] at hnx hb0
          rw [hw0] at hit1 HM
          clear h13 h10 hw0 hd
          by_cases h0 : pos = 0
          · subst h0
            have HR := Lib.hid (lf_cut s fr 0 hp (.inr ⟨hb0, .inl rfl⟩))
            clear hb0
            go_wp2_with (first | (go_at_call 55; refine (clone_any (s.extract fr 0) (ext_size s fr 0 hs) _).mono ?_; rintro e w2 ⟨rfl, hb2⟩; have hown2 := own_below hown1 hb2 (Nat.le_refl _)) | (at_builtin; refine wpList_append_own _ rfl _ _ 62 rfl (w.heap.size + 1) 9 i0 (.string ⟨#[]⟩) 1 16 Tryz.underlying62 hi hz0 hz1 hz2 rfl (by decide) _ _ _ rfl (hown2.alloc _) ⟨w2.heap.size, 0, none⟩ 1 1 [.string (s.extract fr 0)] rfl rfl (cell_one_new _ _ _) (by simp [Value.oneCell']) (by unfold maxLen; omega) (by omega) (by have := hb2.size; simp; omega) ?_; intro v' w3 hown3 hgrow _))
            go_roundw
            case rel =>
              obtain ⟨r1, r2, r3, r4⟩ := rel_put (by omega) (by omega) hit1 hown2 hbel1 hb2 hown3 hgrow
              exact ⟨0 + 1, 0 + 1, ls ++ [s.extract fr 0], by go_num, by omega, by omega, by simp only [List.length_append, List.length_singleton]; omega, r1, r2, r3, by omega, by rw [← HC.out, HR.out]; simp⟩
            case measure =>
              obtain ⟨r1, r2, r3, r4⟩ := rel_put (by omega) (by omega) hit1 hown2 hbel1 hb2 hown3 hgrow
              simp only [iterPos_of r1]; exact HM.out
          · have hpe : 1 ≤ pos := by omega
            have hz0' : ((pos : Int) == 0) = false := by simp; omega
            have hg : (s.get! (pos - 1)).toNat = (s[pos - 1]'(by omega)).toNat := by rw [get_bang s (pos - 1) (by omega)]
            by_cases hq : (s[pos - 1]'(by omega)).toNat = 13
            · have HR := Lib.hid (lf_skip s fr pos hp hb0 h0 (by rw [hg]; exact hq))
              have hqz : (((s[pos - 1]'(by omega)).toNat : Int) != 13) = false := by rw [hq]; rfl
              clear hb0 hg hq
              go_wp2_with fail
              exact ⟨⟨pos + 1, pos + 1, ls, by go_num, by omega, by omega, by omega, hit1, hown1, hbel1, hsz1, by rw [← HC.out, HR.out]⟩, by simp only [iterPos_of hit1]; exact HM.out⟩
            · have HR := Lib.hid (lf_cut s fr pos hp (.inr ⟨hb0, .inr (by rw [hg]; exact hq)⟩))
              have hqz : (((s[pos - 1]'(by omega)).toNat : Int) != 13) = true := by rw [bne_iff_ne]; omega
              clear hb0 hg hq
              go_wp2_with (first | (go_at_call 55; refine (clone_any (s.extract fr pos) (ext_size s fr pos hs) _).mono ?_; rintro e w2 ⟨rfl, hb2⟩; have hown2 := own_below hown1 hb2 (Nat.le_refl _)) | (at_builtin; refine wpList_append_own _ rfl _ _ 62 rfl (w.heap.size + 1) 9 i0 (.string ⟨#[]⟩) 1 16 Tryz.underlying62 hi hz0 hz1 hz2 rfl (by decide) _ _ _ rfl (hown2.alloc _) ⟨w2.heap.size, 0, none⟩ 1 1 [.string (s.extract fr pos)] rfl rfl (cell_one_new _ _ _) (by simp [Value.oneCell']) (by unfold maxLen; omega) (by omega) (by have := hb2.size; simp; omega) ?_; intro v' w3 hown3 hgrow _))
              go_roundw
              case rel =>
                obtain ⟨r1, r2, r3, r4⟩ := rel_put (by omega) (by omega) hit1 hown2 hbel1 hb2 hown3 hgrow
                exact ⟨pos + 1, pos + 1, ls ++ [s.extract fr pos], by go_num, by omega, by omega, by simp only [List.length_append, List.length_singleton]; omega, r1, r2, r3, by omega, by rw [← HC.out, HR.out]; simp⟩
              case measure =>
                obtain ⟨r1, r2, r3, r4⟩ := rel_put (by omega) (by omega) hit1 hown2 hbel1 hb2 hown3 hgrow
                simp only [iterPos_of r1]; exact HM.out
        · have hz13 : (((Utf8.decode s pos).1 : Int) != 13) = true := by rw [bne_iff_ne]; omega
          have hz10 : (((Utf8.decode s pos).1 : Int) != 10) = true := by rw [bne_iff_ne]; omega
          have HR := Lib.hid (lf_rune s fr pos hp h13 h10)
          clear h13 h10
          go_wp2
          go_roundw
          case rel => exact ⟨_, fr, ls, rfl, by omega, hd.2.1, by omega, hit1, hown1, hbel1, hsz1, by rw [← HR.out]; exact HC.out⟩
          case measure => simp only [iterPos_of hit1]; exact HM.out
    · have hnx : ∀ ty, (Instr.next (.pointer (some ⟨w.heap.size, 0, none⟩)) true ty).run Tryz.prog wr = _ := fun ty => Lib.run_next_end_at wr w.heap.size s pos ty hit hp
      have HR := Lib.hid (lf_end s fr pos hp)
      go_wp2_with (first | (go_at_call 55; refine (clone_any (s.extract fr s.size) (ext_size s fr s.size hs) _).mono ?_; rintro e w2 ⟨rfl, hb2⟩; have hown2 := own_below hown hb2 (Nat.le_refl _)) | (at_builtin; refine wpList_append_own _ rfl _ _ 62 rfl (w.heap.size + 1) 9 i0 (.string ⟨#[]⟩) 1 16 Tryz.underlying62 hi hz0 hz1 hz2 rfl (by decide) _ _ _ rfl (hown2.alloc _) ⟨w2.heap.size, 0, none⟩ 1 1 [.string (s.extract fr s.size)] rfl rfl (cell_one_new _ _ _) (by simp [Value.oneCell']) (by unfold maxLen; omega) (by omega) (by have := hb2.size; simp; omega) ?_; intro v' w3 hown3 hgrow _))
      go_ret
      obtain ⟨r1, r2, r3, r4⟩ := rel_put (by omega) (by omega) hit hown2 hbel hb2 hown3 hgrow
      refine ⟨_, rfl, ?_, r3⟩
      rw [← HC.out, HR.out]
      exact Joins.ownsRow_le r2 (by omega)
end Go.Proofs.YtejniiehfangkaaGreatDoor.Bk
