import Derived.Test.YtbfgekfajbbdaaaWalksF
set_option linter.unusedVariables false
set_option linter.unusedSimpArgs false
namespace Go.Proofs.Ytbfgekfajbbdaaa
open Go.RowKit
theorem size_is_bad (s : ByteArray) (hs : s.size ≤ 4294967296) (i : Nat) (hi : i < s.size) (hb : badAt s i = true) (w : World) : Calls Try.prog 23 #[.string s, .int .i64 i] w fun e w' => e = .returned (.tuple #[.int .i64 0, .int .i32 0]) ∧ w = w' :=
  (size_any s hs i hi w).mono fun _ _ ⟨a, b⟩ => ⟨a.trans (sizeE_bad s i hb), b⟩
theorem size_is_ok (s : ByteArray) (hs : s.size ≤ 4294967296) (i : Nat) (hi : i < s.size) (hb : badAt s i = false) (w : World) : Calls Try.prog 23 #[.string s, .int .i64 i] w fun e w' => e = .returned (.tuple #[.int .i64 (Utf8.decode s i).2, .int .i32 (Utf8.decode s i).1]) ∧ w = w' :=
  (size_any s hs i hi w).mono fun _ _ ⟨a, b⟩ => ⟨a.trans (sizeE_ok s i _ _ ⟨rfl, hb⟩), b⟩
set_option maxHeartbeats 400000 in
theorem bad_ref (s : ByteArray) (hs : s.size ≤ 4294967296) (w : World) : Calls Try.prog 10 #[.string s] w fun e w' => e = .returned (.int .i64 (badI s)) ∧ w = w' := by
  go_enter Try.func10, Try.ntmps10
  go_wp2
  go_loop [3] (fun i => ∃ k g : Nat, k ≤ s.size ∧ i = .int .i64 k ∧ badF s g k = badI s ∧ s.size < k + g) (fun i => s.size - (intOf i).toNat)
  case atStart => exact ⟨0, s.size + 1, by omega, rfl, rfl, by omega⟩
  case round =>
    obtain ⟨k, g, hk, rfl, hc, hg⟩ := hrel
    have HC := Lib.hid hc
    clear hc
    by_cases hp : k < s.size
    · cases hb : badAt s k
      · have hd := dec_in s k hp
        obtain ⟨g', h1, h2⟩ := badF_go s g k hp hg hb
        have HR := Lib.hid h1
        have hwd : (((Utf8.decode s k).2 : Int) == 0) = false := by simp; omega
        have hd1 := hd.1
        have hd2 := hd.2.1
        clear h1 hd
        go_wp2_with (go_at_call 23; refine (size_is_ok s hs k hp hb _).mono ?_; rintro e w' ⟨rfl, rfl⟩)
        go_round
        case rel => exact ⟨k + (Utf8.decode s k).2, g', by omega, by go_num, by rw [← HR.out]; exact HC.out, h2⟩
        case measure => simp [intOf]; omega
      · have HR := Lib.hid (badF_hit s g k hp hg hb)
        go_wp2_with (go_at_call 23; refine (size_is_bad s hs k hp hb _).mono ?_; rintro e w' ⟨rfl, rfl⟩)
        go_ret
        exact ⟨ret_int (by rw [← HC.out, HR.out]), rfl⟩
    · go_wp2
      go_ret
      exact ⟨ret_int (by rw [← HC.out, badF_end s g k hp]), rfl⟩
theorem right_iff (s : ByteArray) : rightB s = (badI s == -1) := by
  have := badF_ge s (s.size + 1) 0
  unfold rightB; unfold badI at *
  rw [Bool.eq_iff_iff]; simp; omega
theorem right_ref (s : ByteArray) (hs : s.size ≤ 4294967296) (w : World) : Calls Try.prog 25 #[.string s] w fun e w' => e = .returned (.bool (rightB s)) ∧ w = w' := by
  rw [right_iff]
  go_enter Try.func25, Try.ntmps25
  go_wp2_with (go_at_call 10; refine (bad_ref _ hs _).mono ?_; rintro e w' ⟨rfl, rfl⟩)
  go_ret
  exact ⟨rfl, rfl⟩
/-- The runes from i on. -/
def runesF (s : ByteArray) : Nat → Nat → List Nat
  | 0, _ => []
  | f + 1, i => if i < s.size then (Utf8.decode s i).1 :: runesF s f (i + (Utf8.decode s i).2) else []
def runesI (s : ByteArray) : List Nat := if rightB s then runesF s (s.size + 1) 0 else []
def i32s (l : List Nat) : List Value := l.map fun (r : Nat) => Value.int .i32 r
theorem runesF_end (s : ByteArray) (f i : Nat) (h : ¬ i < s.size) : runesF s f i = [] := by cases f <;> simp [runesF, h]
theorem runesF_go (s : ByteArray) (f i : Nat) (h : i < s.size) (hf : s.size < i + f) : ∃ g, runesF s f i = (Utf8.decode s i).1 :: runesF s g (i + (Utf8.decode s i).2) ∧ s.size < i + (Utf8.decode s i).2 + g ∧ f = g + 1 := by
  cases f with
  | zero => omega
  | succ f => exact ⟨f, by simp [runesF, h], by have := (dec_in s i h).1; omega, rfl⟩
theorem i32s_snoc (l : List Nat) (r : Nat) : i32s (l ++ [r]) = i32s l ++ [.int .i32 r] := by simp [i32s]
theorem info21 : (Try.prog.info? 21).map (fun i => (i.zero, i.size, i.bytes)) = some (some (.int .i32 0), 1, 4) := by kernel_rfl
theorem grown_iter {w W w3 : World} {k base : Nat} {s : ByteArray} {pos : Nat} {v : Value} {e : TypeId} {n : Nat} {xs : List Value} {o : Obj} (hk : k < base) (hkW : k < W.heap.size) (hit : W.heap[k]? = some (.stringIter s pos)) (hown : W.ownsRow base e 1 v n xs) (hb : Below k w W) (hg : (W.alloc o).grownBy w3 v.ownBlock) :
    w3.heap[k]? = some (.stringIter s pos) ∧ Below k w w3 ∧ W.heap.size ≤ w3.heap.size := by
  have hne : ∀ j, v.ownBlock = some j → base ≤ j := fun j hj => (hown.lt j hj).1
  have hb3 : Below k (W.alloc o) w3 := ⟨hg.os, hg.tape, hg.output, hg.size, fun j hj => hg.block j (by simp; omega) (fun e => by have := hne j e.symm; omega)⟩
  have e3 : w3.heap[k]? = (W.alloc o).heap[k]? := hg.block k (by simp; omega) (fun e => by have := hne k e.symm; omega)
  refine ⟨?_, (hb.alloc (by omega) o).trans hb3, ?_⟩
  · rw [e3, Below.heap_alloc _ _ _ (by omega)]; exact hit
  · have := hg.size; simp at this; omega
set_option maxHeartbeats 1000000 in
set_option maxRecDepth 100000 in
theorem runes_any (s : ByteArray) (hs : s.size ≤ 4294967296) (w : World) : Calls Try.prog 14 #[.string s] w fun e w' => ∃ v, e = .returned v ∧ w'.ownsRow w.heap.size 21 1 v (runesI s).length (i32s (runesI s)) ∧ Below w.heap.size w w' := by
  have hml : s.size ≤ maxLen := by unfold maxLen; omega
  obtain ⟨i0, hi, hz0, hz1, hz2⟩ := info_parts info21
  cases hr : rightB s
  · have HI : Hid (runesI s = []) := by unfold runesI; rw [hr]; rfl
    go_enter Try.func14, Try.ntmps14
    go_wp2_with (go_at_call 12; refine (right_any s hml _).mono ?_; rintro e w1 ⟨rfl, hb1⟩)
    go_ret
    refine ⟨_, rfl, ?_, hb1⟩
    rw [HI.out]
    exact World.ownsRow_nil _ _ _ _
  · have HI : Hid (runesI s = runesF s (s.size + 1) 0) := by unfold runesI; rw [hr]; rfl
    go_enter Try.func14, Try.ntmps14
    go_wp2_with (go_at_call 12; refine (right_any s hml _).mono ?_; rintro e w1 ⟨rfl, hb1⟩)
    go_loopw [3] (fun v wr => ∃ (pos g : Nat) (rs : List Nat), pos ≤ s.size ∧ rs.length ≤ pos ∧ wr.heap[w1.heap.size]? = some (.stringIter s pos) ∧
      wr.ownsRow (w1.heap.size + 1) 21 1 v rs.length (i32s rs) ∧ Below w1.heap.size w1 wr ∧ w1.heap.size + 1 ≤ wr.heap.size ∧ rs ++ runesF s g pos = runesF s (s.size + 1) 0 ∧ s.size < pos + g) (fun _ wr => s.size - wr.iterPos w1.heap.size)
    case atStart => exact ⟨0, s.size + 1, [], by omega, by simp, World.iter_heap _ _ _, World.ownsRow_nil _ _ _ _, (Below.refl _ _).alloc (Nat.le_refl _) _, by simp [World.iter], rfl, by omega⟩
    case round =>
      obtain ⟨pos, g, rs, hps, hll, hit, hown, hbel, hsz, hc, hg⟩ := hrel
      have HC := Lib.hid hc
      clear hc
      by_cases hp : pos < s.size
      · have hd := dec_in s pos hp
        have hnx : ∀ ty, (Instr.next (.pointer (some ⟨w1.heap.size, 0, none⟩)) true ty).run Try.prog wr = _ := fun ty => Lib.run_next_any_at wr w1.heap.size s pos ty hit hp
        obtain ⟨W, hW⟩ : ∃ W, W = wr.iterAt w1.heap.size s (pos + (Utf8.decode s pos).2) := ⟨_, rfl⟩
        rw [← hW] at hnx
        have hit1 : W.heap[w1.heap.size]? = some (.stringIter s (pos + (Utf8.decode s pos).2)) := by rw [hW]; exact Lib.iterAt_heap _ _ _ _ _ hit
        have hown1 := ownsRow_iterAt hown (k := w1.heap.size) (by omega) s (pos + (Utf8.decode s pos).2)
        rw [← hW] at hown1
        have hbel1 : Below w1.heap.size w1 W := by rw [hW]; exact Lib.below_iterAt hbel (Nat.le_refl _) _ _
        have hsz1 : w1.heap.size + 1 ≤ W.heap.size := by rw [hW, Lib.iterAt_size]; exact hsz
        have hmeas : s.size - (pos + (Utf8.decode s pos).2) < s.size - wr.iterPos w1.heap.size := by rw [iterPos_of hit]; omega
        have HM := Lib.hid hmeas
        obtain ⟨g', h1, h2, _⟩ := runesF_go s g pos hp hg
        have HR := Lib.hid h1
        clear hW hit hown hbel hsz hmeas h1
        go_wp2_with (at_builtin; refine wpList_append_own _ rfl _ _ 26 rfl (w1.heap.size + 1) 21 i0 (.int .i32 0) 1 4 Try.underlying26 hi hz0 hz1 hz2 rfl (by decide) _ _ _ rfl (hown1.alloc _) ⟨W.heap.size, 0, none⟩ 1 1 [.int .i32 (Utf8.decode s pos).1] rfl rfl (cell_one_new _ _ _) (by simp [Value.oneCell']) (by unfold maxLen; omega) (by omega) (by simp; omega) ?_; intro v' w3 hown3 hgrow _)
        obtain ⟨r1, r3, r4⟩ := grown_iter (by omega) (by omega) hit1 hown1 hbel1 hgrow
        refine ⟨⟨pos + (Utf8.decode s pos).2, g', rs ++ [(Utf8.decode s pos).1], hd.2.1, by simp only [List.length_append, List.length_singleton]; omega, r1, ?_, r3, by omega, by rw [← HC.out, HR.out]; simp, h2⟩, by simp only [iterPos_of r1]; exact HM.out⟩
        rw [i32s_snoc, List.length_append]; exact hown3
      · have hnx : ∀ ty, (Instr.next (.pointer (some ⟨w1.heap.size, 0, none⟩)) true ty).run Try.prog wr = _ := fun ty => Lib.run_next_end_at wr w1.heap.size s pos ty hit hp
        have HR := Lib.hid (runesF_end s g pos hp)
        go_wp2
        go_ret
        refine ⟨_, rfl, ?_, hb1.trans (hbel.mono hb1.size)⟩
        have e : runesI s = rs := by rw [HI.out, ← HC.out, HR.out, List.append_nil]
        rw [e]
        exact Joins.ownsRow_le hown (by have := hb1.size; omega)
end Go.Proofs.Ytbfgekfajbbdaaa
