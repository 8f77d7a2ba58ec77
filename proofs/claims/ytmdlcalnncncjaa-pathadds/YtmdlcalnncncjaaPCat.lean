/- slices.Grow and slices.Concat, of values and of pairs. -/
import Derived.Test.YtmdlcalnncncjaaPCln
import Derived.Test.YtmdlcalnncncjaaTSrtM
import Derived.Lib.AppendZerosOnto
import Derived.Lib.AppendZeros
set_option linter.unusedVariables false
set_option linter.unusedSimpArgs false
namespace Go.Proofs.Ytmdlcalnncncjaa
open Go.RowKit
theorem own_slice {w : World} {base : Nat} {e : TypeId} {size n : Nat} {v : Value} {xs : List Value} (h : w.ownsRow base e size v n xs) : ∃ A c, v = .slice A n c := by
  rcases h.2 with ⟨rfl, rfl⟩ | ⟨g, cap, cur, rfl, _⟩
  · exact ⟨none, 0, rfl⟩
  · exact ⟨_, _, rfl⟩
/-- What Grow answers, of nothing. -/
def GrowR (t : TypeId) (size : Nat) (w : World) (e : Ending) (w' : World) : Prop := ∃ A' c', e = .returned (.slice A' 0 c') ∧ w'.ownsRow w.heap.size t size (.slice A' 0 c') 0 [] ∧ Below w.heap.size w w'
/-- What Concat answers. -/
def CatR (t : TypeId) (size n : Nat) (xs : List Value) (w : World) (e : Ending) (w' : World) : Prop := ∃ A' c', e = .returned (.slice A' n c') ∧ w'.ownsRow w.heap.size t size (.slice A' n c') n xs ∧ Below w.heap.size w w'
/-- Cells that lie at an address, if there are some. -/
def SrcAt (w : World) (B : Option Addr) (m : Nat) (news : List Value) : Prop := (∃ ad, B = some ad ∧ ∀ (j : Nat) u, news[j]? = some u → w.cell? (ad.add j) = some u) ∨ (B = none ∧ m = 0 ∧ news = [])
theorem SrcAt.below {w w' : World} {B : Option Addr} {m M : Nat} {news : List Value} (h : SrcAt w B m news) (hb : Below M w w') (hM : w.heap.size ≤ M) : SrcAt w' B m news := by
  rcases h with ⟨ad, e, h⟩ | h
  · refine .inl ⟨ad, e, fun j u hu => ?_⟩
    have h1 := h j u hu
    have := World.block_lt_of_cell? w _ h1
    rw [hb.cell (by omega)]
    exact h1
  · exact .inr h
set_option maxHeartbeats 2000000 in
set_option maxRecDepth 100000 in
theorem growV (n : Nat) (hn : n ≤ 100000) (w : World) : Calls Try.prog 117 #[.slice none 0 0, .int .i64 n] w fun e w' => GrowR 25 5 w e w' := by
  by_cases h0 : n = 0
  · subst h0
    go_enter Try.func117, Try.ntmps117
    go_wp2_with fail
    go_ret
    exact ⟨none, 0, rfl, World.ownsRow_nil _ _ _ _, Below.refl _ _⟩
  obtain ⟨i0, hi0, hz0, hz1, hz2⟩ := info_parts info25
  have hold : (Builtin.firstCells i0.size 0 (.slice none 0 0)).run Try.prog w.drew = .ok #[] w.drew := run_firstCells_none w.drew i0.size 0 0 0
  have hfit : Builtin.nextslicecap (0 + n) 0 * i0.bytes ≤ 281474976710656 := growslice_fits (by omega) (by rw [hz2]; omega)
  have hrz : ∀ tt, (Builtin.append_ #[22, 3] tt #[.slice none 0 0, .int .i64 n]).run Try.prog w = .ok (.slice (some ⟨w.heap.size, 0, none⟩) (0 + n) (grownCap w (0 + n) 0 25)) (w.drew.alloc (.cells (#[] ++ Builtin.zeroCells _ n ++ Builtin.zeroCells _ (grownCap w (0 + n) 0 25 - (0 + n))) 25)) := fun tt =>
    Lib.run_append_grow_zeros w 22 3 tt 25 i0 _ .i64 .i64 Try.underlying22 Try.underlying3 hi0 hz0 none 0 0 [] hold n (by omega) (by rw [hz1]; decide) (by omega) (by omega) (by rw [hz2]; omega) hfit
  simp only [Nat.zero_add] at hrz
  have hG := grownCap_ge w n 0 25
  have hG2 := grownCap_le_maxLen w n 0 25 (by unfold maxLen; omega)
  obtain ⟨G, hGe⟩ : ∃ G, G = grownCap w n 0 25 := ⟨_, rfl⟩
  rw [← hGe] at hrz hG hG2
  have HG2 := Lib.hid hG2
  have hG63 : G ≤ 9223372036854775807 := by unfold maxLen at hG2; omega
  clear hold hfit hGe hG2
  have h4 : 0 < n := by omega
  go_enter Try.func117, Try.ntmps117
  go_wp2_with (at_builtin; refine Lib.wpList_append_run _ rfl _ _ _ _ rfl _ _ rfl rfl _ _ (hrz _) ?_)
  go_ret
  refine ⟨_, _, rfl, ⟨rfl, .inr ⟨w.heap.size, G, _, rfl, Nat.le_refl _, heap_alloc_new w.drew _, Nat.zero_le _, HG2.out, ?_, by simp⟩⟩, ((Below.refl _ _).drew).alloc (Nat.le_refl _) _⟩
  rw [Array.size_append, size_zeroCells, size_zeroCells]
  simp only [List.size_toArray, List.length_cons, List.length_nil]
  omega
set_option maxHeartbeats 4000000 in
set_option maxRecDepth 100000 in
theorem concatV (A1 A2 : Option Addr) (n1 n2 c1 c2 bc : Nat) (ad : Addr) (xs ys : List Value) (w : World) (h0 : w.cell? ad = some (.slice A1 n1 c1)) (h1 : w.cell? ⟨ad.block, ad.off + 1, none⟩ = some (.slice A2 n2 c2)) (hn1 : n1 ≤ 10000) (hn2 : n2 ≤ 10000) (hx : SrcAt w A1 n1 xs) (hy : SrcAt w A2 n2 ys) (hxl : xs.length = n1 * 5) (hyl : ys.length = n2 * 5) (hx1 : ∀ u ∈ xs, u.oneCell' = true) (hy1 : ∀ u ∈ ys, u.oneCell' = true) :
    Calls Try.prog 94 #[.slice (some ad) 2 2] w fun e w' => CatR 25 5 (n1 + n2) (xs ++ ys) w e w' := by
  have HX := Lib.hid hx
  have HY := Lib.hid hy
  have HXL := Lib.hid hxl
  have HYL := Lib.hid hyl
  have HX1 := Lib.hid hx1
  have HY1 := Lib.hid hy1
  obtain ⟨i0, hi0, hz0, hz1, hz2⟩ := info_parts info25
  have hab := World.block_lt_of_cell? w _ h0
  clear hx hy hxl hyl hx1 hy1
  go_enter Try.func94, Try.ntmps94
  go_wp2_with fail
  go_loopw [3, 11] (fun sv iv wr => w = wr ∧ ((iv = .int .i64 0 ∧ sv = .int .i64 0) ∨ (iv = .int .i64 1 ∧ sv = .int .i64 n1) ∨ (iv = .int .i64 2 ∧ sv = .int .i64 (n1 + n2 : Nat)))) (fun _ iv _ => 2 - (intOf iv).toNat)
  case atStart => exact ⟨rfl, .inl ⟨rfl, rfl⟩⟩
  case round =>
    obtain ⟨rfl, ⟨rfl, rfl⟩ | ⟨rfl, rfl⟩ | ⟨rfl, rfl⟩⟩ := hrel
    · go_wp2_with fail
      exact ⟨⟨trivial, .inr (.inl ⟨rfl, rfl⟩)⟩, by decide⟩
    · go_wp2_with fail
      exact ⟨⟨trivial, .inr (.inr ⟨rfl, by go_num⟩)⟩, by decide⟩
    · have K := Lib.hid (growV (n1 + n2) (by omega) w)
      go_wp2_with fail
      refine K.out.mono ?_
      rintro e w1 ⟨A', c', rfl, hown, hb1⟩
      have HG := Lib.hid hown
      have HB1 := Lib.hid hb1
      clear hown hb1 K
      go_wp2_with fail
      go_loopw [6, 27] (fun nv iv wr => ∃ (v : Value) (k : Nat) (zs : List Value), v = nv ∧ ((iv = .int .i64 0 ∧ k = 0 ∧ zs = []) ∨ (iv = .int .i64 1 ∧ k = n1 ∧ zs = xs) ∨ (iv = .int .i64 2 ∧ k = n1 + n2 ∧ zs = xs ++ ys)) ∧ wr.ownsRow w.heap.size 25 5 v k zs ∧ Below w.heap.size w wr) (fun _ iv _ => 2 - (intOf iv).toNat)
      case atStart => exact ⟨_, 0, [], rfl, .inl ⟨rfl, rfl, rfl⟩, HG.out, HB1.out⟩
      case round =>
        obtain ⟨v, k, zs, rfl, ⟨rfl, rfl, rfl⟩ | ⟨rfl, rfl, rfl⟩ | ⟨rfl, rfl, rfl⟩, ho, hbw⟩ := hrel
        · have HO := Lib.hid ho
          have HB := Lib.hid hbw
          have q0 := (hbw.cell hab).trans h0
          clear ho hbw
          go_wp2_with (at_builtin; refine wpList_append_may wr rfl _ _ 22 rfl w.heap.size 25 i0 _ 5 80 Try.underlying22 hi0 hz0 hz1 hz2 rfl (by decide) v 0 [] rfl HO.out A1 n1 c1 xs rfl HXL.out (HX.out.below HB.out (Nat.le_refl _)) HX1.out (by unfold maxLen; omega) (by omega) HB.out.size ?_; intro v' w3 hown3 hgrow3 hat3)
          refine ⟨⟨v', n1, xs, rfl, .inr (.inl ⟨rfl, rfl, rfl⟩), by simpa using hown3, HB.out.grown hgrow3 HB.out.size (fun g hg => (own_lo HO.out hg).1)⟩, by decide⟩
        · have HO := Lib.hid ho
          have HB := Lib.hid hbw
          have q1 := (hbw.cell (p := ⟨ad.block, ad.off + 1, none⟩) hab).trans h1
          clear ho hbw
          go_wp2_with (at_builtin; refine wpList_append_may wr rfl _ _ 22 rfl w.heap.size 25 i0 _ 5 80 Try.underlying22 hi0 hz0 hz1 hz2 rfl (by decide) v k zs rfl HO.out A2 n2 c2 ys rfl HYL.out (HY.out.below HB.out (Nat.le_refl _)) HY1.out (by unfold maxLen; omega) (by omega) HB.out.size ?_; intro v' w3 hown3 hgrow3 hat3)
          refine ⟨⟨v', _, _, rfl, .inr (.inr ⟨rfl, rfl, rfl⟩), hown3, HB.out.grown hgrow3 HB.out.size (fun g hg => (own_lo HO.out hg).1)⟩, by decide⟩
        · obtain ⟨A3, c3, rfl⟩ := own_slice ho
          have HO := Lib.hid ho
          have HB := Lib.hid hbw
          clear ho hbw
          go_wp2_with fail
          go_ret
          exact ⟨A3, c3, rfl, HO.out, HB.out⟩
/-- Where the cells of a source lie. -/
theorem src_belowV {w w' : World} {B : Option Addr} {m M : Nat} {news : List Value} (h : SrcAt w B m news) (hb : Below M w w') (hM : w.heap.size ≤ M) : SrcAt w' B m news := h.below hb hM
set_option maxHeartbeats 2000000 in
set_option maxRecDepth 100000 in
theorem growF (n : Nat) (hn : n ≤ 100000) (w : World) : Calls Try.prog 116 #[.slice none 0 0, .int .i64 n] w fun e w' => GrowR 36 6 w e w' := by
  by_cases h0 : n = 0
  · subst h0
    go_enter Try.func116, Try.ntmps116
    go_wp2_with fail
    go_ret
    exact ⟨none, 0, rfl, World.ownsRow_nil _ _ _ _, Below.refl _ _⟩
  obtain ⟨i0, hi0, hz0, hz1, hz2⟩ := info_parts info36
  have hold : (Builtin.firstCells i0.size 0 (.slice none 0 0)).run Try.prog w.drew = .ok #[] w.drew := run_firstCells_none w.drew i0.size 0 0 0
  have hfit : Builtin.nextslicecap (0 + n) 0 * i0.bytes ≤ 281474976710656 := growslice_fits (by omega) (by rw [hz2]; omega)
  have hrz : ∀ tt, (Builtin.append_ #[23, 3] tt #[.slice none 0 0, .int .i64 n]).run Try.prog w = .ok (.slice (some ⟨w.heap.size, 0, none⟩) (0 + n) (grownCap w (0 + n) 0 36)) (w.drew.alloc (.cells (#[] ++ Builtin.zeroCells _ n ++ Builtin.zeroCells _ (grownCap w (0 + n) 0 36 - (0 + n))) 36)) := fun tt =>
    Lib.run_append_grow_zeros w 23 3 tt 36 i0 _ .i64 .i64 Try.underlying23 Try.underlying3 hi0 hz0 none 0 0 [] hold n (by omega) (by rw [hz1]; decide) (by omega) (by omega) (by rw [hz2]; omega) hfit
  simp only [Nat.zero_add] at hrz
  have hG := grownCap_ge w n 0 36
  have hG2 := grownCap_le_maxLen w n 0 36 (by unfold maxLen; omega)
  obtain ⟨G, hGe⟩ : ∃ G, G = grownCap w n 0 36 := ⟨_, rfl⟩
  rw [← hGe] at hrz hG hG2
  have HG2 := Lib.hid hG2
  have hG63 : G ≤ 9223372036854775807 := by unfold maxLen at hG2; omega
  clear hold hfit hGe hG2
  have h4 : 0 < n := by omega
  go_enter Try.func116, Try.ntmps116
  go_wp2_with (at_builtin; refine Lib.wpList_append_run _ rfl _ _ _ _ rfl _ _ rfl rfl _ _ (hrz _) ?_)
  go_ret
  refine ⟨_, _, rfl, ⟨rfl, .inr ⟨w.heap.size, G, _, rfl, Nat.le_refl _, heap_alloc_new w.drew _, Nat.zero_le _, HG2.out, ?_, by simp⟩⟩, ((Below.refl _ _).drew).alloc (Nat.le_refl _) _⟩
  rw [Array.size_append, size_zeroCells, size_zeroCells]
  simp only [List.size_toArray, List.length_cons, List.length_nil]
  omega
set_option maxHeartbeats 4000000 in
set_option maxRecDepth 100000 in
theorem concatF (A1 A2 : Option Addr) (n1 n2 c1 c2 bc : Nat) (ad : Addr) (xs ys : List Value) (w : World) (h0 : w.cell? ad = some (.slice A1 n1 c1)) (h1 : w.cell? ⟨ad.block, ad.off + 1, none⟩ = some (.slice A2 n2 c2)) (hn1 : n1 ≤ 10000) (hn2 : n2 ≤ 10000) (hx : SrcAt w A1 n1 xs) (hy : SrcAt w A2 n2 ys) (hxl : xs.length = n1 * 6) (hyl : ys.length = n2 * 6) (hx1 : ∀ u ∈ xs, u.oneCell' = true) (hy1 : ∀ u ∈ ys, u.oneCell' = true) :
    Calls Try.prog 92 #[.slice (some ad) 2 2] w fun e w' => CatR 36 6 (n1 + n2) (xs ++ ys) w e w' := by
  have HX := Lib.hid hx
  have HY := Lib.hid hy
  have HXL := Lib.hid hxl
  have HYL := Lib.hid hyl
  have HX1 := Lib.hid hx1
  have HY1 := Lib.hid hy1
  obtain ⟨i0, hi0, hz0, hz1, hz2⟩ := info_parts info36
  have hab := World.block_lt_of_cell? w _ h0
  clear hx hy hxl hyl hx1 hy1
  go_enter Try.func92, Try.ntmps92
  go_wp2_with fail
  go_loopw [3, 11] (fun sv iv wr => w = wr ∧ ((iv = .int .i64 0 ∧ sv = .int .i64 0) ∨ (iv = .int .i64 1 ∧ sv = .int .i64 n1) ∨ (iv = .int .i64 2 ∧ sv = .int .i64 (n1 + n2 : Nat)))) (fun _ iv _ => 2 - (intOf iv).toNat)
  case atStart => exact ⟨rfl, .inl ⟨rfl, rfl⟩⟩
  case round =>
    obtain ⟨rfl, ⟨rfl, rfl⟩ | ⟨rfl, rfl⟩ | ⟨rfl, rfl⟩⟩ := hrel
    · go_wp2_with fail
      exact ⟨⟨trivial, .inr (.inl ⟨rfl, rfl⟩)⟩, by decide⟩
    · go_wp2_with fail
      exact ⟨⟨trivial, .inr (.inr ⟨rfl, by go_num⟩)⟩, by decide⟩
    · have K := Lib.hid (growF (n1 + n2) (by omega) w)
      go_wp2_with fail
      refine K.out.mono ?_
      rintro e w1 ⟨A', c', rfl, hown, hb1⟩
      have HG := Lib.hid hown
      have HB1 := Lib.hid hb1
      clear hown hb1 K
      go_wp2_with fail
      go_loopw [6, 27] (fun nv iv wr => ∃ (v : Value) (k : Nat) (zs : List Value), v = nv ∧ ((iv = .int .i64 0 ∧ k = 0 ∧ zs = []) ∨ (iv = .int .i64 1 ∧ k = n1 ∧ zs = xs) ∨ (iv = .int .i64 2 ∧ k = n1 + n2 ∧ zs = xs ++ ys)) ∧ wr.ownsRow w.heap.size 36 6 v k zs ∧ Below w.heap.size w wr) (fun _ iv _ => 2 - (intOf iv).toNat)
      case atStart => exact ⟨_, 0, [], rfl, .inl ⟨rfl, rfl, rfl⟩, HG.out, HB1.out⟩
      case round =>
        obtain ⟨v, k, zs, rfl, ⟨rfl, rfl, rfl⟩ | ⟨rfl, rfl, rfl⟩ | ⟨rfl, rfl, rfl⟩, ho, hbw⟩ := hrel
        · have HO := Lib.hid ho
          have HB := Lib.hid hbw
          have q0 := (hbw.cell hab).trans h0
          clear ho hbw
          go_wp2_with (at_builtin; refine wpList_append_may wr rfl _ _ 23 rfl w.heap.size 36 i0 _ 6 96 Try.underlying23 hi0 hz0 hz1 hz2 rfl (by decide) v 0 [] rfl HO.out A1 n1 c1 xs rfl HXL.out (HX.out.below HB.out (Nat.le_refl _)) HX1.out (by unfold maxLen; omega) (by omega) HB.out.size ?_; intro v' w3 hown3 hgrow3 hat3)
          refine ⟨⟨v', n1, xs, rfl, .inr (.inl ⟨rfl, rfl, rfl⟩), by simpa using hown3, HB.out.grown hgrow3 HB.out.size (fun g hg => (own_lo HO.out hg).1)⟩, by decide⟩
        · have HO := Lib.hid ho
          have HB := Lib.hid hbw
          have q1 := (hbw.cell (p := ⟨ad.block, ad.off + 1, none⟩) hab).trans h1
          clear ho hbw
          go_wp2_with (at_builtin; refine wpList_append_may wr rfl _ _ 23 rfl w.heap.size 36 i0 _ 6 96 Try.underlying23 hi0 hz0 hz1 hz2 rfl (by decide) v k zs rfl HO.out A2 n2 c2 ys rfl HYL.out (HY.out.below HB.out (Nat.le_refl _)) HY1.out (by unfold maxLen; omega) (by omega) HB.out.size ?_; intro v' w3 hown3 hgrow3 hat3)
          refine ⟨⟨v', _, _, rfl, .inr (.inr ⟨rfl, rfl, rfl⟩), hown3, HB.out.grown hgrow3 HB.out.size (fun g hg => (own_lo HO.out hg).1)⟩, by decide⟩
        · obtain ⟨A3, c3, rfl⟩ := own_slice ho
          have HO := Lib.hid ho
          have HB := Lib.hid hbw
          clear ho hbw
          go_wp2_with fail
          go_ret
          exact ⟨A3, c3, rfl, HO.out, HB.out⟩
/-- Where the cells of a source lie. -/
theorem src_belowF {w w' : World} {B : Option Addr} {m M : Nat} {news : List Value} (h : SrcAt w B m news) (hb : Below M w w') (hM : w.heap.size ≤ M) : SrcAt w' B m news := h.below hb hM
end Go.Proofs.Ytmdlcalnncncjaa
