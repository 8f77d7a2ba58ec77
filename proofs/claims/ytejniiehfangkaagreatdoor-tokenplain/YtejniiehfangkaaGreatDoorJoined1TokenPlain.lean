/- Several of the texts that this claim leans on, one behind the other. -/
import Derived.Test.YtejniiehfangkaaGreatDoorKOpen
import Derived.Test.YtejniiehfangkaaGreatDoorKTok
import Derived.Test.YtejniiehfangkaaGreatDoorQAwake
import Derived.Deep.QuietTactic
import Derived.BigQuiet
import Derived.Test.YtejniiehfangkaaGreatDoorBld
import Derived.Test.YtejniiehfangkaaGreatDoorKPlain
import Derived.Test.YtejniiehfangkaaGreatDoorKLexW
import Derived.Test.YtejniiehfangkaaGreatDoorBRow
import Derived.Test.YtejniiehfangkaaGreatDoorKNum
import Derived.Test.YtejniiehfangkaaGreatDoorBLinA
import Derived.Test.YtejniiehfangkaaGreatDoorBEdg
import Derived.Deep.CutRange
import Derived.Test.YtejniiehfangkaaGreatDoorKRawW
import Derived.Test.YtejniiehfangkaaGreatDoorQRef
import Derived.Test.YtejniiehfangkaaGreatDoorUWalk
import Derived.Test.YtejniiehfangkaaGreatDoorRefBad
/- Arguments that are lists of tokens, opened. -/
set_option linter.unusedVariables false
set_option linter.unusedSimpArgs false
namespace Go.Proofs.YtejniiehfangkaaGreatDoor
open Go.RowKit Go.ChangeShapes Go.WideShapes Go.Deep
theorem tlist_of {α : Type} {p : Nat → α → Prop} : ∀ n, (∀ i, i < n → ∃ x, p i x) → ∃ l : List α, l.length = n ∧ ∀ (i : Nat) x, l[i]? = some x → p i x
  | 0, _ => ⟨[], rfl, fun i x h => by simp at h⟩
  | n + 1, h => by
    obtain ⟨l, hl, hp⟩ := tlist_of n (fun i hi => h i (by omega))
    obtain ⟨x, hx⟩ := h n (by omega)
    refine ⟨l ++ [x], by simp [hl], fun i y hy => ?_⟩
    by_cases e : i < n
    · rw [List.getElem?_append_left (by omega)] at hy
      exact hp i y hy
    · have hi : i < (l ++ [x]).length := (List.getElem?_eq_some_iff.1 hy).1
      simp [hl] at hi
      obtain rfl : i = n := by omega
      rw [List.getElem?_append_right (by omega), hl] at hy
      simp at hy
      subst hy
      exact hx
theorem tada (a : Addr) (i j : Nat) : (a.add i).add j = a.add (i + j) := by
  unfold Addr.add
  by_cases hi : i = 0 <;> by_cases hj : j = 0 <;> simp [hi, hj, Nat.add_assoc]
theorem tadd_pos (a : Addr) {j : Nat} (h : j ≠ 0) : a.add j = ⟨a.block, a.off + j, none⟩ := by unfold Addr.add; split <;> simp_all
theorem cellsTok : Tryz.prog.cellsOf 41 = 3 := by kernel_rfl
theorem cellsT3 : Tryz.prog.cellsOf 3 = 1 := by kernel_rfl
theorem cellsT9 : Tryz.prog.cellsOf 9 = 1 := by kernel_rfl
section
variable {H : Type} {enc : TypeId × Value → H} {W : World} {base : Nat} {spare : Nat → Bool} {held : Bool}
theorem three_is {cs : List Value} (h : cs.length = 3) : ∃ a b c, cs = [a, b, c] := by
  match cs, h with
  | [a, b, c], _ => exact ⟨a, b, c, rfl⟩
theorem is_token {fuel : Nat} {cs : List Value} {x : DataW H × List MemPlace} (hx : DataW.trod enc Tryz.prog W base spare held fuel 41 cs = some x) : ∃ z : Tz, cs = [.int .i64 z.1, .string z.2.1, .int .i64 z.2.2] ∧ z.2.1.size ≤ maxLen := by
  obtain ⟨xs, n, hn, -, hlen, hxl, hf⟩ := DataW.trod_struct Tryz.underlying41 hx
  rw [cellsTok] at hlen
  obtain ⟨c0, c1, c2, rfl⟩ := three_is hlen
  have f0 : DataW.trod enc Tryz.prog W base spare held n 3 (([c0, c1, c2].drop 0).take (Tryz.prog.cellsOf 3)) = xs[0]? := hf 0 _ rfl
  have f1 : DataW.trod enc Tryz.prog W base spare held n 9 (([c0, c1, c2].drop 1).take (Tryz.prog.cellsOf 9)) = xs[1]? := hf 1 _ rfl
  have f2 : DataW.trod enc Tryz.prog W base spare held n 3 (([c0, c1, c2].drop 2).take (Tryz.prog.cellsOf 3)) = xs[2]? := hf 2 _ rfl
  rw [cellsT9] at f1
  rw [cellsT3] at f0 f2
  have hx3 : xs.length = 3 := hxl
  rw [List.getElem?_eq_getElem (by omega)] at f0 f1 f2
  obtain ⟨k, e0, -, -⟩ := DataW.trod_int Tryz.underlying3 f0
  obtain ⟨s, e1, -, w1⟩ := DataW.trod_string Tryz.underlying9 f1
  obtain ⟨m, e2, -, -⟩ := DataW.trod_int Tryz.underlying3 f2
  have g0 : c0 = .int .i64 k := by simpa using e0
  have g1 : c1 = .string s := by simpa using e1
  have g2 : c2 = .int .i64 m := by simpa using e2
  subst g0 g1 g2
  exact ⟨⟨k, s, m⟩, rfl, w1⟩
/-- What a list of tokens that is handed in is. -/
def IsToks (W : World) (A : Option Addr) (n c : Nat) (zs : List Tz) : Prop := zs.length = n ∧ n ≤ c ∧ n ≤ maxLen ∧ TkL W A zs ∧ ∀ z ∈ zs, z.2.1.size ≤ maxLen
theorem is_toks {fuel : Nat} {v : Value} {x : DataW H × List MemPlace} (hx : DataW.trod enc Tryz.prog W base spare held fuel 23 [v] = some x) : ∃ A n c zs, v = .slice A n c ∧ IsToks W A n c zs := by
  rcases DataW.trod_slice Tryz.underlying23 hx with ⟨e, -⟩ | ⟨ad, len, cap, elems, rest, n', hn', e, -, hb, hlc, hm, hel, hE, -, -⟩
  · exact ⟨none, 0, 0, [], by simpa using e, rfl, Nat.le_refl _, by decide, fun h => absurd rfl h, by simp⟩
  · have hall : ∀ i, i < len → ∃ z : Tz, z.2.1.size ≤ maxLen ∧ ∀ (j : Nat) u, ([.int .i64 z.1, .string z.2.1, .int .i64 z.2.2] : List Value)[j]? = some u → W.cell? (ad.add (i * 3 + j)) = some u := by
      intro i hi
      have h1 := hE i hi
      rw [List.getElem?_eq_getElem (by omega), Option.bind_eq_some_iff] at h1
      obtain ⟨cs', hc, ht⟩ := h1
      obtain ⟨z, rfl, hl⟩ := is_token ht
      refine ⟨z, hl, fun j u hu => ?_⟩
      obtain ⟨-, hcl, hat⟩ := World.cells?_some hc
      have hj : j < 3 := (List.getElem?_eq_some_iff.1 hu).1
      have := hat j (by rw [cellsTok]; exact hj)
      rw [cellsTok, tada] at this
      rw [this]
      exact hu
    obtain ⟨pl, hpl, hp⟩ := tlist_of len hall
    refine ⟨some ad, len, cap, pl, by simpa using e, hpl, by omega, by omega, fun hne => ⟨ad, rfl, ?_, fun i z hz => ⟨?_, ?_, ?_⟩⟩, fun z hz => ?_⟩
    · obtain ⟨z, hz⟩ : ∃ z, pl[0]? = some z := by
        cases pl with
        | nil => exact absurd rfl hne
        | cons z l => exact ⟨z, rfl⟩
      have := (hp 0 z hz).2 0 _ rfl
      rw [show 0 * 3 + 0 = 0 from rfl] at this
      have h2 := World.block_lt_of_cell? W _ this
      rwa [add_blk] at h2
    · exact (hp i z hz).2 0 _ rfl
    · have := (hp i z hz).2 1 _ rfl
      rwa [← tada, tadd_pos _ (by decide)] at this
    · have := (hp i z hz).2 2 _ rfl
      rwa [← tada, tadd_pos _ (by decide)] at this
    · obtain ⟨i, h1, h2⟩ := List.getElem_of_mem hz
      exact (hp i z (by rw [← h2]; exact List.getElem?_eq_getElem _)).1
set_option maxRecDepth 100000 in
theorem open_toks {r : Reach} {b0 : Nat} {v : Value} {d : DataW H} {p : List MemPlace} (hv : Value.okWide Tryz.prog W r b0 23 v) (h : DataW.Trod enc Tryz.prog W base spare held 23 v d p) :
    ∃ A n c zs, v = .slice A n c ∧ IsToks W A n c zs := by
  obtain ⟨A, n, c, rfl⟩ := okWide_slice Tryz.underlying23 hv
  obtain ⟨fuel, hf⟩ := h
  exact is_toks hf
end
end Go.Proofs.YtejniiehfangkaaGreatDoor

/- few: tokens of a size that is looked at. -/
set_option linter.unusedVariables false
set_option linter.unusedSimpArgs false
namespace Go.Proofs.YtejniiehfangkaaGreatDoor
open Go.RowKit
def fewB (N : Nat) (zs : List Tz) : Bool := (zs.take 100).all (fun z => decide (z.2.1.size ≤ 60)) && decide (zs.length ≤ N)
theorem few_no {N : Nat} {zs : List Tz} {i : Nat} {z : Tz} (hz : zs[i]? = some z) (hi : i < 100) (h : 60 < z.2.1.size) : fewB N zs = false := by
  unfold fewB
  rw [Bool.and_eq_false_iff]
  refine .inl ?_
  rw [List.all_eq_false]
  refine ⟨z, ?_, by simp; omega⟩
  obtain ⟨h1, h2⟩ := List.getElem?_eq_some_iff.1 hz
  rw [← h2]
  exact List.mem_take_iff_getElem.2 ⟨i, by omega, rfl⟩
theorem few_yes {N : Nat} {zs : List Tz} {i : Nat} (hi : zs.length ≤ i ∨ 100 ≤ i) (h : ∀ j z, j < i → zs[j]? = some z → z.2.1.size ≤ 60) : fewB N zs = decide (zs.length ≤ N) := by
  unfold fewB
  rw [List.all_eq_true.2 (fun z hz => ?_), Bool.true_and]
  obtain ⟨j, h1, h2⟩ := List.mem_take_iff_getElem.1 hz
  exact decide_eq_true (h j z (by omega) (by rw [← h2]; exact List.getElem?_eq_getElem _))
set_option maxHeartbeats 1000000 in
set_option maxRecDepth 100000 in
theorem few_any (a : Option Addr) (n c N : Nat) (zs : List Tz) (hz : zs.length = n) (w : World) (hT : TkL w a zs) : Calls Tryz.prog 13 #[.slice a n c, .int .i64 (N : Nat)] w fun e w' => e = .returned (.bool (fewB N zs)) ∧ Below w.heap.size w w' := by
  have HT := Lib.hid hT
  have HZ := Lib.hid hz
  clear hT hz
  go_enter Tryz.func13, Tryz.ntmps13
  go_wp2_with fail
  go_loopw [5] (fun v wr => ∃ i : Nat, v = .int .i64 (i : Nat) ∧ i ≤ n ∧ i ≤ 100 ∧ Below w.heap.size w wr ∧ (∀ j z, j < i → zs[j]? = some z → z.2.1.size ≤ 60)) (fun v _ => n - (intOf v).toNat)
  case atStart => exact ⟨0, rfl, Nat.zero_le _, by omega, Below.refl _ _, fun j z h => by omega⟩
  case round =>
    obtain ⟨i, rfl, hi, hi2, hbr, hall⟩ := hrel
    have HBr := Lib.hid hbr
    have HA := Lib.hid hall
    clear hbr hall
    by_cases hlt : i < n
    · by_cases h100 : i < 100
      · obtain ⟨z, hzk⟩ : ∃ z, zs[i]? = some z := ⟨zs[i]'(by have := HZ.out; omega), List.getElem?_eq_getElem _⟩
        obtain ⟨ad, rfl, hadb, hzz⟩ := HT.out.below HBr.out (by intro e; rw [e] at hzk; simp at hzk)
        have c1 := (hzz i z hzk).2.1
        obtain ⟨S, hS⟩ : ∃ S, z.2.1 = S := ⟨_, rfl⟩
        rw [hS] at c1
        by_cases hg : 60 < S.size
        · have HF := Lib.hid (few_no (N := N) hzk h100 (by rw [hS]; exact hg))
          clear hzz hzk hS
          go_wp2_with fail
          go_ret
          refine ⟨?_, HBr.out⟩
          rw [HF.out]
          rfl
        · have HA2 : Hid (∀ j z, j < i + 1 → zs[j]? = some z → z.2.1.size ≤ 60) := Lib.hid (fun j y hj hy => by
            by_cases h : j < i
            · exact HA.out j y h hy
            · obtain rfl : j = i := by omega
              rw [hzk] at hy; cases hy
              rw [hS]; omega)
          clear hzz hzk hS
          go_wp2_with fail
          exact ⟨⟨i + 1, by go_num, by omega, by omega, HBr.out, HA2.out⟩, by simp [intOf]; omega⟩
      · have HF := Lib.hid (few_yes (N := N) (.inr (by omega)) HA.out)
        have HN : Hid (decide (zs.length ≤ N) = decide (n ≤ N)) := Lib.hid (by rw [HZ.out])
        go_wp2_with fail
        go_ret
        refine ⟨?_, HBr.out⟩
        rw [HF.out, HN.out]
        rfl
    · have HF := Lib.hid (few_yes (N := N) (.inl (by have := HZ.out; omega)) HA.out)
      have HN : Hid (decide (zs.length ≤ N) = decide (n ≤ N)) := Lib.hid (by rw [HZ.out])
      go_wp2_with fail
      go_ret
      refine ⟨?_, HBr.out⟩
      rw [HF.out, HN.out]
      rfl
end Go.Proofs.YtejniiehfangkaaGreatDoor

/- One token as it is written: token.plainOne. -/
set_option linter.unusedVariables false
set_option linter.unusedSimpArgs false
namespace Go.Proofs.YtejniiehfangkaaGreatDoor
open Go.RowKit
def pickP (k : Int) (s : ByteArray) : Fst → Option ByteArray
  | .ok k' _ m => if (k' : Int) = k ∧ m = s.size then some s else none
  | .no _ => none
/-- How a token of kind k and text s is written, if it may be. -/
def oneP (k : Int) (s : ByteArray) : Option ByteArray :=
  if k = 4 then (if rightB s = true then some (quoteB s) else none)
  else if k = 1 ∨ k = 2 ∨ k = 3 then pickP k s (fstL s.data.toList)
  else none
def OneE (o : Option ByteArray) (e : Ending) : Prop := match o with
  | some t => e = .returned (.tuple #[.string t, .bool true])
  | none => ∃ t, e = .returned (.tuple #[.string t, .bool false])
set_option maxHeartbeats 2000000 in
set_option maxRecDepth 100000 in
theorem pone_else (k a : Int) (s : ByteArray) (h1 : (k == 1) = false) (h2 : (k == 2) = false) (h3 : (k == 3) = false) (h4 : (k == 4) = false) (w : World) : Calls Tryz.prog 26 #[.agg #[.int .i64 k, .string s, .int .i64 a]] w fun e w' => OneE none e ∧ Below w.heap.size w w' := by
  go_enter Tryz.func26, Tryz.ntmps26
  go_wp2_with fail
  go_ret2
  exact ⟨⟨_, rfl⟩, (Below.refl _ _).alloc (Nat.le_refl _) _⟩
set_option maxHeartbeats 2000000 in
set_option maxRecDepth 100000 in
theorem pone_text (a : Int) (s : ByteArray) (hs : s.size ≤ 1000000) (hr : rightB s = true) (w : World) (hL : LV w) : Calls Tryz.prog 26 #[.agg #[.int .i64 4, .string s, .int .i64 a]] w fun e w' => OneE (some (quoteB s)) e ∧ Below w.heap.size w w' := by
  have HL := Lib.hid hL
  clear hL
  go_enter Tryz.func26, Tryz.ntmps26
  go_wp2_with fail
  refine (quote_yes s (by omega) hr _ (HL.out.go ((Below.refl _ _).alloc (Nat.le_refl _) _)).both.1).mono ?_
  rintro e w1 ⟨rfl, hb1⟩
  go_wp2_with fail
  go_ret2
  exact ⟨rfl, (((Below.refl w.heap.size w).alloc (Nat.le_refl _) _)).trans (hb1.mono (by simp))⟩
set_option maxHeartbeats 2000000 in
set_option maxRecDepth 100000 in
theorem pone_wrong (a : Int) (s : ByteArray) (hs : s.size ≤ 1000000) (hr : rightB s = false) (w : World) : Calls Tryz.prog 26 #[.agg #[.int .i64 4, .string s, .int .i64 a]] w fun e w' => OneE none e ∧ Below w.heap.size w w' := by
  have HR := Lib.hid hr
  clear hr
  go_enter Tryz.func26, Tryz.ntmps26
  go_wp2_with fail
  refine (quote_no s (by unfold maxLen; omega) HR.out _).mono ?_
  rintro e w1 ⟨rfl, hb1⟩
  go_wp2_with fail
  go_ret2
  exact ⟨⟨_, rfl⟩, (((Below.refl w.heap.size w).alloc (Nat.le_refl _) _)).trans (hb1.mono (by simp))⟩
set_option maxHeartbeats 2000000 in
set_option maxRecDepth 100000 in
theorem pone_first (k a : Int) (s : ByteArray) (hs : s.size ≤ 1000000) (F : Fst) (hF : fstL s.data.toList = F) (h : (k == 1) = true ∨ ((k == 1) = false ∧ (k == 2) = true) ∨ ((k == 1) = false ∧ (k == 2) = false ∧ (k == 3) = true)) (w : World) (hL : LV w) : Calls Tryz.prog 26 #[.agg #[.int .i64 k, .string s, .int .i64 a]] w fun e w' => OneE (pickP k s F) e ∧ Below w.heap.size w w' := by
  have KF : Hid (∀ w, LV w → Calls Tryz.prog 22 #[.string s] w (FsP F w)) := Lib.hid (fun w hw => by rw [← hF]; exact first_any s hs w hw)
  have HL := Lib.hid hL
  clear hL hF
  cases F with
  | no b =>
    rcases h with h1 | ⟨h1, h2⟩ | ⟨h1, h2, h3⟩
    all_goals
      go_enter Tryz.func26, Tryz.ntmps26
      go_wp2_with fail
      refine (KF.out _ (HL.out.go ((Below.refl _ _).alloc (Nat.le_refl _) _))).mono ?_
      rintro e w1 ⟨⟨k1, t1, rfl⟩, hb1⟩
      have HV0 := heap_alloc_new w (.cells #[.int .i64 k, .string s, .int .i64 a] 41)
      have HV := Lib.hid ((hb1.block w.heap.size (by simp)).trans HV0)
      have HW : w.heap.size < w1.heap.size := Nat.lt_of_lt_of_le (by simp) hb1.size
      have HB1 := Lib.hid ((((Below.refl w.heap.size w).alloc (Nat.le_refl _) _)).trans (hb1.mono (by simp)))
      clear hb1 HV0
      have c0 : ∀ o, (w1.alloc o).cell? ⟨w.heap.size, 0, none⟩ = some (.int .i64 k) := fun o => (World.cell?_alloc_past _ _ _ HW).trans (Lib.cell_of_heap HV.out 0)
      have c1 : ∀ o, (w1.alloc o).cell? ⟨w.heap.size, 1, none⟩ = some (.string s) := fun o => (World.cell?_alloc_past _ _ _ HW).trans (Lib.cell_of_heap HV.out 1)
      go_wp2_with fail
      go_quiet (fail)
      go_wp2_with fail
      go_ret2
      exact ⟨⟨_, rfl⟩, Go.below_drewN (HB1.out.alloc HB1.out.size _) _⟩
  | ok k' s' m =>
    have hcase : (((k' : Int) == k) = true ∧ ((m : Int) == (s.size : Int)) = true ∧ pickP k s (.ok k' s' m) = some s) ∨ (((k' : Int) == k) = true ∧ ((m : Int) == (s.size : Int)) = false ∧ pickP k s (.ok k' s' m) = none) ∨ (((k' : Int) == k) = false ∧ pickP k s (.ok k' s' m) = none) := by
      unfold pickP
      by_cases hk : (k' : Int) = k
      · by_cases hm : m = s.size
        · exact .inl ⟨by simpa using hk, by simpa using (by omega : (m : Int) = (s.size : Int)), if_pos ⟨hk, hm⟩⟩
        · exact .inr (.inl ⟨by simpa using hk, by simpa using (by omega : ¬ (m : Int) = (s.size : Int)), if_neg (fun h => hm h.2)⟩)
      · exact .inr (.inr ⟨by simpa using hk, if_neg (fun h => hk h.1)⟩)
    rcases hcase with ⟨e1, e2, e3⟩ | ⟨e1, e2, e3⟩ | ⟨e1, e3⟩
    · rw [e3]
      clear e3
      rcases h with h1 | ⟨h1, h2⟩ | ⟨h1, h2, h3⟩
      all_goals
        go_enter Tryz.func26, Tryz.ntmps26
        go_wp2_with fail
        refine (KF.out _ (HL.out.go ((Below.refl _ _).alloc (Nat.le_refl _) _))).mono ?_
        rintro e w1 ⟨hF, hb1⟩
        have hF := (show e = .returned (.tuple #[.agg #[.int .i64 (k' : Nat), .string ⟨s'.toArray⟩, .int .i64 0], .int .i64 (m : Nat), .bool true]) from hF)
        subst hF
        have HV0 := heap_alloc_new w (.cells #[.int .i64 k, .string s, .int .i64 a] 41)
        have HV := Lib.hid ((hb1.block w.heap.size (by simp)).trans HV0)
        have HW : w.heap.size < w1.heap.size := Nat.lt_of_lt_of_le (by simp) hb1.size
        have HB1 := Lib.hid ((((Below.refl w.heap.size w).alloc (Nat.le_refl _) _)).trans (hb1.mono (by simp)))
        clear hb1 HV0
        have c0 : ∀ o, (w1.alloc o).cell? ⟨w.heap.size, 0, none⟩ = some (.int .i64 k) := fun o => (World.cell?_alloc_past _ _ _ HW).trans (Lib.cell_of_heap HV.out 0)
        have c1 : ∀ o, (w1.alloc o).cell? ⟨w.heap.size, 1, none⟩ = some (.string s) := fun o => (World.cell?_alloc_past _ _ _ HW).trans (Lib.cell_of_heap HV.out 1)
        go_wp2_with fail
        go_quiet (fail)
        go_wp2_with fail
        go_ret2
        exact ⟨rfl, Go.below_drewN (HB1.out.alloc HB1.out.size _) _⟩
    · rw [e3]
      clear e3
      rcases h with h1 | ⟨h1, h2⟩ | ⟨h1, h2, h3⟩
      all_goals
        go_enter Tryz.func26, Tryz.ntmps26
        go_wp2_with fail
        refine (KF.out _ (HL.out.go ((Below.refl _ _).alloc (Nat.le_refl _) _))).mono ?_
        rintro e w1 ⟨hF, hb1⟩
        have hF := (show e = .returned (.tuple #[.agg #[.int .i64 (k' : Nat), .string ⟨s'.toArray⟩, .int .i64 0], .int .i64 (m : Nat), .bool true]) from hF)
        subst hF
        have HV0 := heap_alloc_new w (.cells #[.int .i64 k, .string s, .int .i64 a] 41)
        have HV := Lib.hid ((hb1.block w.heap.size (by simp)).trans HV0)
        have HW : w.heap.size < w1.heap.size := Nat.lt_of_lt_of_le (by simp) hb1.size
        have HB1 := Lib.hid ((((Below.refl w.heap.size w).alloc (Nat.le_refl _) _)).trans (hb1.mono (by simp)))
        clear hb1 HV0
        have c0 : ∀ o, (w1.alloc o).cell? ⟨w.heap.size, 0, none⟩ = some (.int .i64 k) := fun o => (World.cell?_alloc_past _ _ _ HW).trans (Lib.cell_of_heap HV.out 0)
        have c1 : ∀ o, (w1.alloc o).cell? ⟨w.heap.size, 1, none⟩ = some (.string s) := fun o => (World.cell?_alloc_past _ _ _ HW).trans (Lib.cell_of_heap HV.out 1)
        go_wp2_with fail
        go_quiet (fail)
        go_wp2_with fail
        go_ret2
        exact ⟨⟨_, rfl⟩, Go.below_drewN (HB1.out.alloc HB1.out.size _) _⟩
    · rw [e3]
      clear e3
      rcases h with h1 | ⟨h1, h2⟩ | ⟨h1, h2, h3⟩
      all_goals
        go_enter Tryz.func26, Tryz.ntmps26
        go_wp2_with fail
        refine (KF.out _ (HL.out.go ((Below.refl _ _).alloc (Nat.le_refl _) _))).mono ?_
        rintro e w1 ⟨hF, hb1⟩
        have hF := (show e = .returned (.tuple #[.agg #[.int .i64 (k' : Nat), .string ⟨s'.toArray⟩, .int .i64 0], .int .i64 (m : Nat), .bool true]) from hF)
        subst hF
        have HV0 := heap_alloc_new w (.cells #[.int .i64 k, .string s, .int .i64 a] 41)
        have HV := Lib.hid ((hb1.block w.heap.size (by simp)).trans HV0)
        have HW : w.heap.size < w1.heap.size := Nat.lt_of_lt_of_le (by simp) hb1.size
        have HB1 := Lib.hid ((((Below.refl w.heap.size w).alloc (Nat.le_refl _) _)).trans (hb1.mono (by simp)))
        clear hb1 HV0
        have c0 : ∀ o, (w1.alloc o).cell? ⟨w.heap.size, 0, none⟩ = some (.int .i64 k) := fun o => (World.cell?_alloc_past _ _ _ HW).trans (Lib.cell_of_heap HV.out 0)
        have c1 : ∀ o, (w1.alloc o).cell? ⟨w.heap.size, 1, none⟩ = some (.string s) := fun o => (World.cell?_alloc_past _ _ _ HW).trans (Lib.cell_of_heap HV.out 1)
        go_wp2_with fail
        go_quiet (fail)
        go_wp2_with fail
        go_ret2
        exact ⟨⟨_, rfl⟩, Go.below_drewN (HB1.out.alloc HB1.out.size _) _⟩
theorem pone_any (k a : Int) (s : ByteArray) (hs : s.size ≤ 1000000) (w : World) (hL : LV w) : Calls Tryz.prog 26 #[.agg #[.int .i64 k, .string s, .int .i64 a]] w fun e w' => OneE (oneP k s) e ∧ Below w.heap.size w w' := by
  unfold oneP
  by_cases h4 : k = 4
  · subst h4
    rw [if_pos rfl]
    cases hr : rightB s with
    | true => exact pone_text a s hs hr w hL
    | false => exact pone_wrong a s hs hr w
  rw [if_neg h4]
  have n4 : (k == 4) = false := by simpa using h4
  by_cases h3 : k = 1 ∨ k = 2 ∨ k = 3
  · rw [if_pos h3]
    refine pone_first k a s hs _ rfl ?_ w hL
    rcases h3 with rfl | rfl | rfl
    · exact .inl rfl
    · exact .inr (.inl ⟨rfl, rfl⟩)
    · exact .inr (.inr ⟨rfl, rfl, rfl⟩)
  · rw [if_neg h3]
    exact pone_else k a s (by simp; omega) (by simp; omega) (by simp; omega) n4 w
end Go.Proofs.YtejniiehfangkaaGreatDoor

/- The text of many tokens: token.Plain. -/
set_option linter.unusedVariables false
set_option linter.unusedSimpArgs false
namespace Go.Proofs.YtejniiehfangkaaGreatDoor
open Go.RowKit
/-- The text of tokens, the first one at place 0 or not. -/
def plnL : Bool → List Tz → Option (List UInt8)
  | _, [] => some []
  | f, (k, s, _) :: l => match oneP k s, plnL false l with
    | some t, some u => some ((if f then [] else [32]) ++ t.data.toList ++ u)
    | _, _ => none
def plnB (l : List Tz) : ByteArray := ⟨((plnL true l).getD []).toArray⟩
theorem oneP_size {k : Int} {s t : ByteArray} (h : oneP k s = some t) : t.size ≤ 6 * s.size + 2 := by
  unfold oneP at h
  split at h
  · split at h
    · cases h
      have := (qIn_len s.data.toList).2
      rw [quoteB_size]; rw [← Lib.size_eq] at this; omega
    · cases h
  · split at h
    · unfold pickP at h
      split at h
      · split at h
        · cases h; omega
        · cases h
      · cases h
    · cases h
theorem plnL_none {f : Bool} {z : Tz} {l : List Tz} (h : oneP z.1 z.2.1 = none) : plnL f (z :: l) = none := by
  obtain ⟨k, s, a⟩ := z
  unfold plnL
  rw [show oneP k s = none from h]
theorem plnL_some {f : Bool} {z : Tz} {l : List Tz} {t : ByteArray} (h : oneP z.1 z.2.1 = some t) : plnL f (z :: l) = (plnL false l).map (((if f then [] else [32]) ++ t.data.toList) ++ ·) := by
  obtain ⟨k, s, a⟩ := z
  conv => lhs; unfold plnL
  rw [show oneP k s = some t from h]
  cases plnL false l <;> rfl
/-- The text so far, and what is left. -/
def PJ (zs : List Tz) (k : Nat) (l : List UInt8) : Prop := (plnL (k == 0) (zs.drop k)).map (l ++ ·) = plnL true zs
theorem PJ.start (zs : List Tz) : PJ zs 0 [] := by
  unfold PJ
  rw [List.drop_zero]
  show (plnL true zs).map _ = _
  cases plnL true zs <;> rfl
theorem drop_at' {zs : List Tz} {k : Nat} {z : Tz} (h : zs[k]? = some z) : zs.drop k = z :: zs.drop (k + 1) := by
  obtain ⟨hk, h2⟩ := List.getElem?_eq_some_iff.1 h
  rw [List.drop_eq_getElem_cons hk, h2]
theorem PJ.none {zs : List Tz} {k : Nat} {z : Tz} {l : List UInt8} (h : PJ zs k l) (hz : zs[k]? = some z) (ho : oneP z.1 z.2.1 = none) : plnB zs = ⟨#[]⟩ := by
  unfold PJ at h
  rw [drop_at' hz, plnL_none ho] at h
  unfold plnB
  rw [← h]; rfl
theorem PJ.first {zs : List Tz} {z : Tz} {t : ByteArray} {l : List UInt8} (h : PJ zs 0 l) (hz : zs[0]? = some z) (ho : oneP z.1 z.2.1 = some t) : PJ zs 1 (l ++ t.data.toList) := by
  unfold PJ at h ⊢
  rw [drop_at' hz, plnL_some ho] at h
  rw [← h]
  show (plnL false (zs.drop 1)).map _ = _
  cases plnL false (zs.drop (0 + 1)) <;> simp
theorem PJ.next {zs : List Tz} {k : Nat} {z : Tz} {t : ByteArray} {l : List UInt8} (h : PJ zs k l) (hk : 1 ≤ k) (hz : zs[k]? = some z) (ho : oneP z.1 z.2.1 = some t) : PJ zs (k + 1) (l ++ [32] ++ t.data.toList) := by
  unfold PJ at h ⊢
  rw [drop_at' hz, plnL_some ho] at h
  rw [← h, show (k + 1 == 0) = false from rfl, show (k == 0) = false from by simp; omega]
  cases plnL false (zs.drop (k + 1)) <;> simp
theorem PJ.end {zs : List Tz} {k : Nat} {l : List UInt8} (h : PJ zs k l) (hk : zs.length ≤ k) : plnB zs = ⟨l.toArray⟩ := by
  unfold PJ at h
  rw [List.drop_of_length_le hk] at h
  unfold plnB
  rw [← h]
  simp [plnL]
set_option maxHeartbeats 2000000 in
set_option maxRecDepth 100000 in
theorem tplain_any (a : Option Addr) (n c : Nat) (zs : List Tz) (hz : zs.length = n) (hn : n ≤ 1000) (hs : ∀ z ∈ zs, z.2.1.size ≤ 4000) (w : World) (hT : TkL w a zs) (hL : LV w) : Calls Tryz.prog 14 #[.slice a n c] w fun e w' => e = .returned (.string (plnB zs)) ∧ Below w.heap.size w w' := by
  have HT := Lib.hid hT
  have HL := Lib.hid hL
  have HZ := Lib.hid hz
  have HS := Lib.hid hs
  clear hT hL hz hs
  go_enter Tryz.func14, Tryz.ntmps14
  go_wp2_with fail
  go_loopw [10] (fun v wr => ∃ (k : Nat) (l : List UInt8), v = .int .i64 (k : Nat) ∧ k ≤ n ∧ Lib.IsBuilder 52 5 w.heap.size w.heap.size (Lib.byteCells l) wr ∧ Below w.heap.size w wr ∧ PJ zs k l ∧ l.length ≤ k * 30000) (fun v _ => n - (intOf v).toNat)
  case atStart => exact ⟨0, [], rfl, Nat.zero_le _, Lib.fresh_isBuilder _ _ w, (Below.refl _ _).alloc (Nat.le_refl _) _, PJ.start zs, by simp⟩
  case round =>
    obtain ⟨k, l, rfl, hk, hI, hbr, hj, hlen⟩ := hrel
    have HI := Lib.hid hI
    have HBR := Lib.hid hbr
    have HJ := Lib.hid hj
    clear hI hbr hj
    by_cases hlt : k < n
    · obtain ⟨z, hzk⟩ : ∃ z, zs[k]? = some z := ⟨zs[k]'(by have := HZ.out; omega), List.getElem?_eq_getElem _⟩
      have HZK := Lib.hid hzk
      obtain ⟨ad, hae, hadb, hzz⟩ := HT.out.below HBR.out (by intro e; rw [e] at hzk; simp at hzk)
      subst hae
      obtain ⟨c0, c1, c2⟩ := hzz k z hzk
      have hsz := HS.out z (List.mem_of_getElem? hzk)
      obtain ⟨K, hK⟩ : ∃ K, z.1 = K := ⟨_, rfl⟩
      obtain ⟨S, hS⟩ : ∃ S, z.2.1 = S := ⟨_, rfl⟩
      obtain ⟨A, hA⟩ : ∃ A, z.2.2 = A := ⟨_, rfl⟩
      rw [hK] at c0
      rw [hS] at c1 hsz
      rw [hA] at c2
      have KP : Hid (∀ w, LV w → Calls Tryz.prog 26 #[.agg #[.int .i64 K, .string S, .int .i64 A]] w fun e w' => OneE (oneP K S) e ∧ Below w.heap.size w w') := Lib.hid (fun w hw => pone_any K A S (by omega) w hw)
      have HO : Hid (oneP z.1 z.2.1 = oneP K S) := Lib.hid (by rw [hK, hS])
      clear hzz hzk hK hS hA
      have HI1 := Lib.hid (builder_below HI.out ((Below.refl _ _).alloc (Nat.le_refl _) (.cells #[.int .i64 K, .string S, .int .i64 A] 41)))
      have HB1 := Lib.hid (HBR.out.alloc HBR.out.size (.cells #[.int .i64 K, .string S, .int .i64 A] 41))
      go_wp2_with fail
      generalize wr.alloc (.cells #[.int .i64 K, .string S, .int .i64 A] 41) = w1 at HI1 HB1 ⊢
      refine (KP.out w1 (HL.out.go HB1.out)).mono ?_
      rintro e w2 ⟨he, hb2⟩
      have HI2 := Lib.hid (builder_below HI1.out hb2)
      have HB2 := Lib.hid (HB1.out.trans (hb2.mono HB1.out.size))
      clear hb2 KP HI1 HB1
      cases ho : oneP K S with
      | none =>
        rw [ho] at he
        obtain ⟨t, rfl⟩ := he
        have HP := Lib.hid (PJ.none HJ.out HZK.out (HO.out.trans ho))
        clear ho
        go_wp2_with fail
        go_ret
        refine ⟨?_, HB2.out⟩
        rw [HP.out]
        rfl
      | some t =>
        rw [ho] at he
        have he := (show e = .returned (.tuple #[.string t, .bool true]) from he)
        subst he
        have hts := oneP_size ho
        have HO2 := Lib.hid (HO.out.trans ho)
        have hlt2 : (l ++ t.data.toList).length = l.length + t.size := by rw [List.length_append, ← Lib.size_eq]
        have hlt3 : (l ++ [32] ++ t.data.toList).length = l.length + 1 + t.size := by rw [List.length_append, ← Lib.size_eq, List.length_append]; rfl
        have hlt4 : (l ++ [UInt8.ofNat 32]).length = l.length + 1 := by rw [List.length_append]; rfl
        have HL2 := Lib.hid hlt2
        have HL3 := Lib.hid hlt3
        have HL4 := Lib.hid hlt4
        clear ho hlt2 hlt3 hlt4
        by_cases hk0 : k = 0
        · subst hk0
          have HP := Lib.hid (PJ.first HJ.out HZK.out HO2.out)
          go_wp2_with (go_at_call 28; refine (write_string w.heap.size w.heap.size l t _ HI2.out (by omega) (by omega) HB2.out.size).mono ?_; rintro e w3 ⟨rfl, hI3, hb3⟩)
          exact ⟨⟨1, l ++ t.data.toList, by go_num, by omega, hI3, HB2.out.trans hb3.1, HP.out, by rw [HL2.out]; omega⟩, by simp [intOf]; omega⟩
        · have hk1 : 1 ≤ k := by omega
          have hgt : decide ((0 : Int) < (k : Int)) = true := decide_eq_true (by omega)
          have HP := Lib.hid (PJ.next HJ.out hk1 HZK.out HO2.out)
          go_wp2_with (first
            | (go_at_call 27; refine (write_byte w.heap.size w.heap.size l 32 (by decide) _ HI2.out (by omega) HB2.out.size).mono ?_; rintro e w3 ⟨rfl, hI3, hb3⟩)
            | (go_at_call 28; refine (write_string w.heap.size w.heap.size (l ++ [UInt8.ofNat 32]) t _ hI3 (by rw [HL4.out]; omega) (by omega) (HB2.out.trans hb3.1).size).mono ?_; rintro e w4 ⟨rfl, hI4, hb4⟩))
          exact ⟨⟨k + 1, l ++ [32] ++ t.data.toList, by go_num, by omega, hI4, (HB2.out.trans hb3.1).trans hb4.1, HP.out, by rw [HL3.out]; omega⟩, by simp [intOf]; omega⟩
    · obtain rfl : k = n := by omega
      have HP := Lib.hid (PJ.end HJ.out (by have := HZ.out; omega))
      go_wp2_with (go_at_call 29; refine (Tryz.Builder_String_any _ _ l _ HI.out HBR.out.size).mono ?_; rintro e w3 ⟨rfl, hb3⟩)
      go_ret
      refine ⟨?_, HBR.out.trans hb3⟩
      rw [HP.out]
      rfl
end Go.Proofs.YtejniiehfangkaaGreatDoor

/- The document's own way of cutting: each token at its place, a number with what stands behind it; plain. -/
set_option linter.unusedVariables false
set_option linter.unusedSimpArgs false
namespace Go.Proofs.YtejniiehfangkaaGreatDoor
def nxtL (l : List UInt8) : Fst := match fstL l with
  | .ok k s m => if k = 3 ∧ hdP (l.drop m) = true then .no m else .ok k s m
  | .no b => .no b
def refF : Nat → List UInt8 → Nat → Nat → Toks
  | 0, _, e, _ => .inr (3, e)
  | f + 1, l, e, n =>
    if l.isEmpty then .inl []
    else if n = 900 then .inr (6, e)
    else match nxtL l with
      | .no j => .inr (3, e + j)
      | .ok k s m => consT [⟨k, s, e⟩] (refF f (l.drop (m + betw false (l.drop m))) (e + m + betw false (l.drop m)) (n + 1))
theorem ptB_bg {c : UInt8} (h : ptB c = true) : bgB c = true := by
  unfold ptB nmB lrB dgB isL isD at h
  unfold bgB
  simp at h ⊢
  omega
theorem hdP_betw {l : List UInt8} (h : hdP l = true) : betw false l = 0 ∧ 0 < l.length := by
  cases l with
  | nil => simp [hdP] at h
  | cons c t => exact ⟨bgB_betw c t (ptB_bg h), by simp⟩
theorem ref_lex : ∀ (f : Nat) (l : List UInt8) (e n : Nat) (nb : Bool), n + l.length < 900 → l.length < f → ¬ (betw false l = 0 ∧ nb = true ∧ hdP l = true) → refF f (l.drop (betw false l)) (e + betw false l) n = lexF f l e n nb
  | 0, l, e, n, nb, _, h, _ => by omega
  | f + 1, l, e, n, nb, hn, hf, hp => by
    by_cases h : betw false l < l.length
    · have hn9 : n ≠ 900 := by omega
      unfold refF
      rw [drop_some' h, if_neg (by simp), if_neg hn9]
      unfold nxtL
      cases hx : fstL (l.drop (betw false l)) with
      | no j => rw [lexF_no h hn9 hp hx]
      | ok k x m =>
        have hs := fst_step h hx
        rw [lexF_ok h hn9 hp hx]
        dsimp only
        rw [List.drop_drop]
        have hl : (l.drop (betw false l + m)).length < f := by rw [List.length_drop]; omega
        by_cases hk : k = 3 ∧ hdP (l.drop (betw false l + m)) = true
        · rw [if_pos hk]
          dsimp only
          have h2 := hdP_betw hk.2
          obtain ⟨g, rfl⟩ : ∃ g, f = g + 1 := ⟨f - 1, by omega⟩
          rw [lexF_part (by omega) (by omega) ⟨h2.1, by simp [hk.1], hk.2⟩]
          rfl
        · rw [if_neg hk]
          dsimp only
          rw [← ref_lex f (l.drop (betw false l + m)) (e + betw false l + m) (n + 1) (k == 3) (by rw [List.length_drop]; omega) hl (by rintro ⟨_, h1, h2⟩; exact hk ⟨by simpa using h1, h2⟩)]
          simp only [List.drop_drop, Nat.add_assoc]
    · rw [lexF_end (by omega), List.drop_of_length_le (by omega)]
      rfl
/-- What the document's Lex answers. -/
def lexR (s : ByteArray) : Toks := if 4000 < s.size then .inr (6, 0) else if 0 ≤ badI s then .inr (2, (badI s).toNat) else refF (s.size + 1) (s.data.toList.drop (betw false s.data.toList)) (betw false s.data.toList) 0
theorem lexR_is (s : ByteArray) (h : s.size < 900) : lexR s = lexB s := by
  unfold lexR lexB
  have h4 : ¬ 4000 < s.size := by omega
  simp only [h4, if_false]
  by_cases hb : 0 ≤ badI s
  · rw [if_pos hb, if_pos hb]
  · rw [if_neg hb, if_neg hb]
    unfold lexL
    have := ref_lex (s.size + 1) s.data.toList 0 0 false (by rw [← Lib.size_eq]; omega) (by rw [← Lib.size_eq]; omega) (by simp)
    rw [Nat.zero_add] at this
    rw [this, ← Lib.size_eq]
end Go.Proofs.YtejniiehfangkaaGreatDoor

/- The document's own reader of tokens: what stands between, words, signs, errors. -/
set_option linter.unusedVariables false
set_option linter.unusedSimpArgs false
namespace Go.Proofs.YtejniiehfangkaaGreatDoor
open Go.RowKit
theorem letter_ref (r : Int) (w : World) : Calls Tryz.prog 43 #[.int .u8 r] w fun e w' => e = .returned (.bool (isL r)) ∧ w = w' := by
  go_enter Tryz.func43, Tryz.ntmps43
  go_wp2
  all_goals
    go_ret
    refine ⟨ret_bool ?_, rfl⟩
    unfold isL; rw [Bool.eq_iff_iff]; simp; omega
theorem digit_ref (r : Int) (w : World) : Calls Tryz.prog 44 #[.int .u8 r] w fun e w' => e = .returned (.bool (isD r)) ∧ w = w' := by
  go_enter Tryz.func44, Tryz.ntmps44
  go_wp2
  all_goals
    go_ret
    refine ⟨ret_bool ?_, rfl⟩
    unfold isD; rw [Bool.eq_iff_iff]; simp; try omega
theorem begins_ref (s t : ByteArray) (i : Nat) (hi : i ≤ s.size) (hs : s.size ≤ 1000000) (ht : t.size ≤ 100) (b : Bool) (hb : t.data.toList.isPrefixOf (s.data.toList.drop i) = b) (w : World) : Calls Tryz.prog 42 #[.string s, .int .i64 i, .string t] w fun e w' => e = .returned (.bool b) ∧ w = w' := by
  by_cases hlt : i + t.size ≤ s.size
  · have d1 : decide ((t.size : Int) ≤ (s.size : Int) - (i : Int)) = true := decide_eq_true (by omega)
    have hp := Bk.pre_at s t i
    rw [hb] at hp
    clear hb
    go_enter Tryz.func42, Tryz.ntmps42
    go_wp2_with fail
    go_ret
    exact ⟨rfl, rfl⟩
  · have hp := Bk.pre_long s t i hi hlt
    rw [hb] at hp
    subst hp
    have d1 : decide ((t.size : Int) ≤ (s.size : Int) - (i : Int)) = false := decide_eq_false (by omega)
    go_enter Tryz.func42, Tryz.ntmps42
    go_wp2_with fail
    go_ret
    exact ⟨rfl, rfl⟩
set_option maxHeartbeats 2000000 in
set_option maxRecDepth 100000 in
theorem between_ref (s : ByteArray) (a : Nat) (ha : a ≤ s.size) (hs : s.size ≤ 1000000) (w : World) : Calls Tryz.prog 24 #[.string s, .int .i64 a] w fun e w' => e = .returned (.int .i64 ((a + betw false (s.data.toList.drop a) : Nat) : Int)) ∧ w = w' := by
  obtain ⟨T, hT⟩ : ∃ T, a + betw false (s.data.toList.drop a) = T := ⟨_, rfl⟩
  have HT0 := Lib.hid hT
  rw [hT]
  clear hT
  go_enter Tryz.func24, Tryz.ntmps24
  go_wp2_with fail
  go_loopw [1, 5] (fun v _ wr => ∃ k : Nat, v = .int .i64 (k : Nat) ∧ k ≤ s.size ∧ k + betw false (s.data.toList.drop k) = T ∧ w = wr) (fun v _ _ => s.size - (intOf v).toNat)
  case atStart => exact ⟨a, rfl, ha, HT0.out, rfl⟩
  case round =>
    obtain ⟨k, rfl, hk, hT, rfl⟩ := hrel
    have HT := Lib.hid hT
    clear hT
    by_cases hlt : k < s.size
    · have hg := get_bang s k hlt
      by_cases hbl : (s.get! k).toNat = 32 ∨ (s.get! k).toNat = 9 ∨ (s.get! k).toNat = 10 ∨ (s.get! k).toNat = 13 ∨ (s.get! k).toNat = 44
      · have HS : Hid (k + 1 + betw false (s.data.toList.drop (k + 1)) = T) := Lib.hid (by
          have h1 := bt_step (s := s) (r := false) hlt (by unfold stA; rw [if_pos (by omega)])
          have h2 : stR false (s.get! k).toNat = false := by unfold stR; split; rfl; rw [if_neg (by omega)]
          rw [h2] at h1
          have := HT.out
          omega)
        rw [hg] at hbl
        clear hg
        rcases hbl with h | h | h | h | h
        all_goals
          have h' : ((s[k]'hlt).toNat : Int) = _ := congrArg Nat.cast h
          clear h
          go_wp2_with fail
          exact ⟨⟨k + 1, by go_num, by omega, HS.out, by first | rfl | trivial⟩, by simp [intOf]; omega⟩
      have e32 : (((s[k]'hlt).toNat : Int) == 32) = false := beq_eq_false_iff_ne.2 (by rw [← hg]; omega)
      have e9 : (((s[k]'hlt).toNat : Int) == 9) = false := beq_eq_false_iff_ne.2 (by rw [← hg]; omega)
      have e10 : (((s[k]'hlt).toNat : Int) == 10) = false := beq_eq_false_iff_ne.2 (by rw [← hg]; omega)
      have e13 : (((s[k]'hlt).toNat : Int) == 13) = false := beq_eq_false_iff_ne.2 (by rw [← hg]; omega)
      have e44 : (((s[k]'hlt).toNat : Int) == 44) = false := beq_eq_false_iff_ne.2 (by rw [← hg]; omega)
      by_cases h35 : (s.get! k).toNat = 35
      · have HQ : Hid (k + betw true (s.data.toList.drop k) = T) := Lib.hid (by
          have h1 := bt_step (s := s) (r := false) hlt (by unfold stA; rw [if_pos (by omega)])
          have h2 := bt_step (s := s) (r := true) hlt (by unfold stA; rw [if_pos (by omega)])
          have h3 : ∀ r, stR r (s.get! k).toNat = true := fun r => by unfold stR; rw [if_neg (by omega), if_pos h35]
          rw [h3] at h1 h2
          have := HT.out
          omega)
        have e35 : (((s[k]'hlt).toNat : Int) != 35) = false := by rw [← hg, h35]; rfl
        have HG := Lib.hid h35
        clear hbl hg h35
        go_wp2_with fail
        go_loopw [1] (fun v wr => ∃ j : Nat, v = .int .i64 (j : Nat) ∧ k ≤ j ∧ j ≤ s.size ∧ j + betw true (s.data.toList.drop j) = T ∧ w = wr) (fun v _ => s.size - (intOf v).toNat)
        case atStart => exact ⟨k, rfl, Nat.le_refl _, hk, HQ.out, rfl⟩
        case round =>
          obtain ⟨j, rfl, hkj, hj, hT2, rfl⟩ := hrel
          have HT2 := Lib.hid hT2
          clear hT2 e32 e9 e10 e13 e44 e35
          by_cases hlj : j < s.size
          · have hgj := get_bang s j hlj
            by_cases hend : (s.get! j).toNat = 10 ∨ (s.get! j).toNat = 13
            · have hne : k ≠ j := fun e => by subst e; have := HG.out; omega
              have HS : Hid (j + betw false (s.data.toList.drop j) = T) := Lib.hid (by
                have h1 := bt_step (s := s) (r := false) hlj (by unfold stA; rw [if_pos (by omega)])
                have h2 := bt_step (s := s) (r := true) hlj (by unfold stA; rw [if_pos (by omega)])
                have h3 : ∀ r, stR r (s.get! j).toNat = false := fun r => by unfold stR; rw [if_pos hend]
                rw [h3] at h1 h2
                have := HT2.out
                omega)
              by_cases h10 : (s.get! j).toNat = 10
              · have f10 : (((s[j]'hlj).toNat : Int) != 10) = false := by rw [← hgj, h10]; rfl
                clear hend hgj h10
                go_wp2_with fail
                exact ⟨⟨j, rfl, hj, HS.out, by first | rfl | trivial⟩, by simp [intOf]; omega⟩
              · have f10 : (((s[j]'hlj).toNat : Int) != 10) = true := by rw [← hgj, bne_iff_ne]; omega
                have f13 : (((s[j]'hlj).toNat : Int) != 13) = false := by rw [← hgj, show (s.get! j).toNat = 13 by omega]; rfl
                clear hend hgj h10
                go_wp2_with fail
                exact ⟨⟨j, rfl, hj, HS.out, by first | rfl | trivial⟩, by simp [intOf]; omega⟩
            · have f10 : (((s[j]'hlj).toNat : Int) != 10) = true := by rw [← hgj, bne_iff_ne]; omega
              have f13 : (((s[j]'hlj).toNat : Int) != 13) = true := by rw [← hgj, bne_iff_ne]; omega
              have HS : Hid (j + 1 + betw true (s.data.toList.drop (j + 1)) = T) := Lib.hid (by
                have h2 := bt_step (s := s) (r := true) hlj (by unfold stA; split <;> rfl)
                have h3 : stR true (s.get! j).toNat = true := by unfold stR; rw [if_neg hend]; split <;> rfl
                rw [h3] at h2
                have := HT2.out
                omega)
              clear hend hgj
              go_wp2_with fail
              exact ⟨⟨j + 1, by go_num, by omega, by omega, HS.out, by first | rfl | trivial⟩, by simp [intOf]; omega⟩
          · have hne : k ≠ j := by omega
            have HS : Hid (j + betw false (s.data.toList.drop j) = T) := Lib.hid (by
              have h1 := bt_end (s := s) (r := false) hlj
              have h2 := bt_end (s := s) (r := true) hlj
              have := HT2.out
              omega)
            go_wp2_with fail
            exact ⟨⟨j, rfl, hj, HS.out, by first | rfl | trivial⟩, by simp [intOf]; omega⟩
      · have e35 : (((s[k]'hlt).toNat : Int) != 35) = true := by rw [← hg, bne_iff_ne]; omega
        have HE : Hid (k = T) := Lib.hid (by
          have h1 := bt_no (s := s) (r := false) hlt (by unfold stA; rw [if_neg (by omega)])
          have := HT.out
          omega)
        clear hbl hg h35
        go_wp2_with fail
        go_ret
        exact ⟨by rw [← HE.out]; rfl, rfl⟩
    · have HE : Hid (k = T) := Lib.hid (by have := HT.out; rw [bt_end hlt] at this; exact this)
      go_wp2_with fail
      go_ret
      exact ⟨by rw [← HE.out]; rfl, rfl⟩
/-! ### what is answered -/
/-- What the document's functions of one token answer. -/
def OneR (F : Fst) (a : Nat) (e : Ending) : Prop := match F with
  | .ok k s m => e = .returned (.agg #[.int .i64 (k : Nat), .string ⟨s.toArray⟩, .int .i64 (a : Nat), .int .i64 ((a + m : Nat) : Int), .int .i64 0])
  | .no b => e = .returned (.agg #[.int .i64 0, .string ⟨#[]⟩, .int .i64 0, .int .i64 ((a + b : Nat) : Int), .int .i64 3])
abbrev zO : Obj := .cells #[.int .i64 0, .string { data := #[] }, .int .i64 0, .int .i64 0, .int .i64 0] 48
def o5 (j : Nat) : Value := ([.int .i64 0, .string { data := #[] }, .int .i64 0, .int .i64 0, .int .i64 0] : List Value).getD j undef
theorem row5 {w : World} {N : Nat} (h : w.heap[N]? = some (.cells #[.int .i64 0, .string { data := #[] }, .int .i64 0, .int .i64 0, .int .i64 0] 48 (0, 0))) : w.rowIs N 48 5 o5 := by
  refine ⟨_, h, rfl, fun i hi => ?_⟩
  match i, hi with
  | 0, _ => rfl
  | 1, _ => rfl
  | 2, _ => rfl
  | 3, _ => rfl
  | 4, _ => rfl
abbrev resO (wr : World) (Q : Nat) (k : Int) (t : ByteArray) (a b er : Int) : World := ((((wr.setCell ⟨Q, 0, none⟩ (.int .i64 k)).setCell ⟨Q, 1, none⟩ (.string t)).setCell ⟨Q, 2, none⟩ (.int .i64 a)).setCell ⟨Q, 3, none⟩ (.int .i64 b)).setCell ⟨Q, 4, none⟩ (.int .i64 er)
theorem resO_below {B Q : Nat} {w wr : World} {k a b er : Int} {t : ByteArray} (h : Below B w wr) (hR : B ≤ Q) : Below B w (resO wr Q k t a b er) := ((((h.setCell hR _).setCell hR _).setCell hR _).setCell hR _).setCell hR _
set_option maxHeartbeats 1000000 in
set_option maxRecDepth 100000 in
theorem wrong_ref (a : Int) (w : World) : Calls Tryz.prog 47 #[.int .i64 a] w fun e w' => e = .returned (.agg #[.int .i64 0, .string ⟨#[]⟩, .int .i64 0, .int .i64 a, .int .i64 3]) ∧ Below w.heap.size w w' := by
  go_enter Tryz.func47, Tryz.ntmps47
  go_wp2_with fail
  refine bodyPost_ret (v := .agg #[.int .i64 0, .string ⟨#[]⟩, .int .i64 0, .int .i64 a, .int .i64 3]) (by simp [results, Tryz.results47, go_sem]; try rfl) rfl ?_
  exact ⟨rfl, (Below.refl _ _).alloc (Nat.le_refl _) _⟩
end Go.Proofs.YtejniiehfangkaaGreatDoor

/- The document's own numbers: plain. -/
set_option linter.unusedVariables false
set_option linter.unusedSimpArgs false
namespace Go.Proofs.YtejniiehfangkaaGreatDoor
open Go.RowKit
def numX (l : List UInt8) : Fst := match numL l with
  | .ok k x m => if hdP (l.drop m) = true then .no m else .ok k x m
  | .no b => .no b
/-- The digits' number from F on. -/
def dvR (s : ByteArray) (F k : Nat) : Nat := dvB ((s.data.toList.drop F).take (k - F))
theorem dvR_next {s : ByteArray} {F k : Nat} (hF : F ≤ k) (hk : k < s.size) : dvR s F (k + 1) = dvR s F k * 10 + ((s.get! k).toNat - 48) := by
  unfold dvR dvB
  have hg : (s.data.toList.drop F)[k - F]? = some (s.get! k) := by
    rw [List.getElem?_drop, show F + (k - F) = k by omega, List.getElem?_eq_getElem (by rw [← Lib.size_eq]; exact hk), get_bang_data s k hk]
  rw [show k + 1 - F = (k - F) + 1 by omega, List.take_add_one, hg]
  simp only [Option.toList_some, List.foldl_append, List.foldl_cons, List.foldl_nil]
/-- What has been read so far. -/
def NumI (s : ByteArray) (F k : Nat) (V : Int) (g : Bool) : Prop := 0 ≤ V ∧ V ≤ 9999999999999999 ∧ ((g = false ∧ V = (dvR s F k : Int)) ∨ (g = true ∧ 1000000000000000 ≤ V ∧ 10000000000000000 ≤ dvR s F k))
theorem NumI.more {s : ByteArray} {F k d : Nat} {V : Int} {g : Bool} (h : NumI s F k V g) (hn : dvR s F (k + 1) = dvR s F k * 10 + d) (hd : d ≤ 9) : (V < 1000000000000000 → NumI s F (k + 1) (V * 10 + (d : Int)) g) ∧ (¬ V < 1000000000000000 → NumI s F (k + 1) V true) := by
  obtain ⟨h0, h1, h2⟩ := h
  constructor
  · intro hlt
    refine ⟨by omega, by omega, ?_⟩
    rcases h2 with ⟨rfl, h3⟩ | ⟨-, h3, -⟩
    · exact .inl ⟨rfl, by omega⟩
    · omega
  · intro hlt
    refine ⟨h0, h1, .inr ⟨rfl, by omega, ?_⟩⟩
    rcases h2 with ⟨-, h3⟩ | ⟨-, -, h3⟩ <;> omega
/-- The byte at k is a digit; the first of several isn't a 0. -/
theorem dig_in {s : ByteArray} {F k : Nat} (hF : F ≤ k) (hk : k < F + (if hd48 (s.data.toList.drop F) then 1 else tk dgB (s.data.toList.drop F))) (hs : k < s.size) : dgB (s.get! k) = true ∧ (k = F + 1 → (s.get! F).toNat ≠ 48) := by
  have hFs : F < s.size := by omega
  by_cases h : hd48 (s.data.toList.drop F) = true
  · rw [if_pos h] at hk
    obtain rfl : k = F := by omega
    obtain ⟨t, ht⟩ := hd48_is h
    have := (drop_some s k _ _ ht).2.1
    exact ⟨by rw [this]; rfl, fun e => by omega⟩
  · rw [if_neg h] at hk
    refine ⟨?_, fun _ e => h ?_⟩
    · have hall := tk_all dgB (s.data.toList.drop F)
      refine hall _ (List.mem_iff_getElem.2 ⟨k - F, by rw [List.length_take, List.length_drop, ← Lib.size_eq]; omega, ?_⟩)
      rw [List.getElem_take, List.getElem_drop]
      have := get_bang_data s k hs
      rw [← this]
      congr 1
      omega
    · rw [drop_cons s F hFs]
      simp [hd48, e]
/-- Behind them stands no digit, but behind a 0. -/
theorem dig_out {s : ByteArray} {F k : Nat} (hk : k = F + (if hd48 (s.data.toList.drop F) then 1 else tk dgB (s.data.toList.drop F))) (hs : k < s.size) : dgB (s.get! k) = false ∨ (k = F + 1 ∧ (s.get! F).toNat = 48) := by
  by_cases h : hd48 (s.data.toList.drop F) = true
  · rw [if_pos h] at hk
    obtain ⟨t, ht⟩ := hd48_is h
    have := (drop_some s F _ _ ht).2.1
    exact .inr ⟨hk, by rw [this]; rfl⟩
  · rw [if_neg h] at hk
    left
    refine tk_next dgB (s.data.toList.drop F) _ ?_
    rw [List.drop_drop, ← hk, drop_cons s k hs]
    rfl
theorem hdP_at {s : ByteArray} {k : Nat} (h : k < s.size) : hdP (s.data.toList.drop k) = ptB (s.get! k) := by rw [drop_cons s k h]; rfl
theorem hdP_end {s : ByteArray} {k : Nat} (h : ¬ k < s.size) : hdP (s.data.toList.drop k) = false := by
  rw [List.drop_of_length_le (by rw [← Lib.size_eq]; omega)]; rfl
end Go.Proofs.YtejniiehfangkaaGreatDoor

/- The document's own numbers, without a sign. -/
set_option linter.unusedVariables false
set_option linter.unusedSimpArgs false
namespace Go.Proofs.YtejniiehfangkaaGreatDoor
open Go.RowKit
set_option maxHeartbeats 8000000 in
set_option maxRecDepth 100000 in
theorem number_ref0 (s : ByteArray) (a : Nat) (ha : a < s.size) (hs : s.size ≤ 1000000) (h45 : (((s[a]'ha).toNat : Int) == 45) = false) (G : Fst) (hG : numX (s.data.toList.drop a) = G) (w : World) : Calls Tryz.prog 45 #[.string s, .int .i64 (a : Nat)] w fun e w' => OneR G a e ∧ Below w.heap.size w w' := by
  have hsg : sgN (s.data.toList.drop a) = 0 := by
    have hga := get_bang s a ha
    have hh : hd45 (s.data.toList.drop a) = false := by
      rw [drop_cons s a ha]
      show ((s.get! a).toNat == 45) = false
      rw [hga]
      simp only [beq_eq_false_iff_ne, ne_eq] at h45 ⊢; omega
    unfold sgN
    rw [hh]
    rfl
  obtain ⟨D, hD⟩ : ∃ D, dgN (s.data.toList.drop a) = D := ⟨_, rfl⟩
  have hD2 : (if hd48 (s.data.toList.drop a) then 1 else tk dgB (s.data.toList.drop a)) = D := by
    rw [← hD]; unfold dgN; rw [hsg, List.drop_drop]; rfl
  have hNs : a + D ≤ s.size := by
    have := dgN_le (s.data.toList.drop a)
    rw [hsg, hD, List.length_drop, ← Lib.size_eq] at this
    omega
  -- what it comes to
  have hX : G = (if D = 0 ∨ 9007199254740991 < dvR s a (a + D) ∨ (¬ True ∧ dvR s a (a + D) = 0) then .no 0 else if hdP (s.data.toList.drop (a + D)) = true then .no (a + D - a) else .ok 3 ((s.data.toList.drop a).take (a + D - a)) (a + D - a)) := by
    rw [← hG]
    have hv : vlN (s.data.toList.drop a) = dvR s a (a + D) := by unfold vlN dvR; rw [hsg, hD, List.drop_drop, Nat.add_sub_cancel_left]; rfl
    have hsum : a + D - a = 0 + D := by omega
    unfold numX numL
    rw [hv, hD, hsg]
    by_cases c : D = 0 ∨ 9007199254740991 < dvR s a (a + D) ∨ (¬ True ∧ dvR s a (a + D) = 0)
    · rw [if_pos c, if_pos (by simpa using c)]
    · rw [if_neg c, if_neg (by simpa using c), hsum]
      dsimp only
      rw [List.drop_drop, show a + (0 + D) = a + D by omega]
  have HX := Lib.hid hX
  have HD2 := Lib.hid hD2
  have HR := Lib.hid (row5 (heap_alloc_new w zO))
  have HB0 := Lib.hid ((Below.refl w.heap.size w).alloc (Nat.le_refl _) zO)
  have HS0 := Lib.hid (show (w.alloc zO).heap.size = w.heap.size + 1 by simp)
  clear hsg hD hD2 hX hG
  go_enter Tryz.func45, Tryz.ntmps45
  go_wp2_with fail
  generalize w.alloc zO = w0 at HR HB0 HS0 ⊢
  go_loopw [6, 7, 8] (fun v6 v7 v8 wr => ∃ (k : Nat) (V : Int) (g : Bool), v6 = .int .i64 (k : Nat) ∧ v7 = .int .i64 V ∧ v8 = .bool g ∧ a ≤ k ∧ k ≤ a + D ∧ NumI s a k V g ∧ w0 = wr) (fun v6 _ _ _ => s.size - (intOf v6).toNat)
  case atStart => exact ⟨a, 0, false, by go_num, rfl, rfl, Nat.le_refl _, by omega, ⟨by decide, by decide, .inl ⟨rfl, by unfold dvR; rw [Nat.sub_self]; rfl⟩⟩, rfl⟩
  case round =>
    obtain ⟨k, V, g, rfl, rfl, rfl, hFk, hkN, hN, rfl⟩ := hrel
    have HN := Lib.hid hN
    have hV0 := hN.1
    have hV1 := hN.2.1
    clear hN
    by_cases hkD : k < a + D
    · have hks : k < s.size := by omega
      have hFs : a < s.size := by omega
      obtain ⟨hdg, hno⟩ := dig_in (s := s) hFk (by rw [HD2.out]; exact hkD) hks
      have hgk := get_bang s k hks
      have hgF := get_bang s a hFs
      have hc := dgB_is hdg
      have HNX := Lib.hid (HN.out.more (dvR_next (s := s) hFk hks) (by omega))
      rw [hgk] at HNX hc hdg
      obtain ⟨hc0, hc1⟩ := hc
      have HCD : Hid ((((s[k]'hks).toNat - 48 : Nat) : Int) = ((s[k]'hks).toNat : Int) - 48) := Lib.hid (by omega)
      have KD : Hid (Calls Tryz.prog 44 #[.int .u8 (s[k]'hks).toNat] w0 fun e w' => e = .returned (.bool true) ∧ w0 = w') := Lib.hid ((digit_ref _ _).mono (by rintro e w' ⟨rfl, rfl⟩; exact ⟨ret_bool hdg, rfl⟩))
      clear hdg hgk
      by_cases h1 : k = a + 1
      · have e1 : ((k : Int) == (a : Int) + 1) = true := by rw [h1]; simp
        have e48 : (((s[a]'hFs).toNat : Int) == 48) = false := beq_eq_false_iff_ne.2 (by have := hno h1; rw [hgF] at this; omega)
        clear hno hgF
        by_cases hV : V < 1000000000000000
        · have dV : decide (V < 1000000000000000) = true := decide_eq_true hV
          have HM := Lib.hid (HNX.out.1 hV)
          clear hV h1
          go_wp2_with fail
          refine KD.out.mono ?_
          rintro e w1 ⟨rfl, rfl⟩
          go_wp2_with fail
          exact ⟨⟨k + 1, V * 10 + (((s[k]'hks).toNat - 48 : Nat) : Int), g, by go_num, by rw [HCD.out]; congr 1; omega, rfl, by omega, by omega, HM.out, by first | rfl | trivial⟩, by simp [intOf]; omega⟩
        · have dV : decide (V < 1000000000000000) = false := decide_eq_false hV
          have HM := Lib.hid (HNX.out.2 hV)
          clear hV h1
          go_wp2_with fail
          refine KD.out.mono ?_
          rintro e w1 ⟨rfl, rfl⟩
          go_wp2_with fail
          exact ⟨⟨k + 1, V, true, by go_num, rfl, rfl, by omega, by omega, HM.out, by first | rfl | trivial⟩, by simp [intOf]; omega⟩
      · have e1 : ((k : Int) == (a : Int) + 1) = false := by simp; omega
        clear hno hgF
        by_cases hV : V < 1000000000000000
        · have dV : decide (V < 1000000000000000) = true := decide_eq_true hV
          have HM := Lib.hid (HNX.out.1 hV)
          clear hV h1
          go_wp2_with fail
          refine KD.out.mono ?_
          rintro e w1 ⟨rfl, rfl⟩
          go_wp2_with fail
          exact ⟨⟨k + 1, V * 10 + (((s[k]'hks).toNat - 48 : Nat) : Int), g, by go_num, by rw [HCD.out]; congr 1; omega, rfl, by omega, by omega, HM.out, by first | rfl | trivial⟩, by simp [intOf]; omega⟩
        · have dV : decide (V < 1000000000000000) = false := decide_eq_false hV
          have HM := Lib.hid (HNX.out.2 hV)
          clear hV h1
          go_wp2_with fail
          refine KD.out.mono ?_
          rintro e w1 ⟨rfl, rfl⟩
          go_wp2_with fail
          exact ⟨⟨k + 1, V, true, by go_num, rfl, rfl, by omega, by omega, HM.out, by first | rfl | trivial⟩, by simp [intOf]; omega⟩
    · obtain rfl : k = a + D := by omega
      obtain ⟨k, hk⟩ : ∃ k, a + D = k := ⟨_, rfl⟩
      rw [hk] at HN HX hNs hFk ⊢
      have hDk : D = k - a := by omega
      by_cases hke : ¬ k < s.size
      · have dlt : decide ((k : Int) < (s.size : Int)) = false := decide_eq_false (by omega)
        by_cases hD0 : D = 0
        · have t1 : ((k : Int) == (a : Int)) = true := by simp; omega
          have HC : Hid (D = 0 ∨ 9007199254740991 < dvR s a k ∨ (¬ True ∧ dvR s a k = 0)) := Lib.hid (Or.inl hD0)
          clear hD0 hk hDk hkN hkD
          go_wp2_with fail
          refine (wrong_ref (a : Int) w0).mono ?_
          rintro e w9 ⟨rfl, hb9⟩
          have HR9 := Lib.hid (row_blk HR.out (hb9.block _ (show w.heap.size < w0.heap.size by rw [HS0.out]; omega)))
          have HB9 := Lib.hid (HB0.out.trans (hb9.mono (by rw [HS0.out]; omega)))
          clear hb9
          have z0 := HR9.out.cell (show 0 < 5 by decide)
          have z1 := HR9.out.cell (show 1 < 5 by decide)
          have z2 := HR9.out.cell (show 2 < 5 by decide)
          have z3 := HR9.out.cell (show 3 < 5 by decide)
          have z4 := HR9.out.cell (show 4 < 5 by decide)
          have g0 := HR9.out.frozen 0
          have g1 := HR9.out.frozen 1
          have g2 := HR9.out.frozen 2
          have g3 := HR9.out.frozen 3
          have g4 := HR9.out.frozen 4
          simp only [o5, List.getD_cons_succ, List.getD_cons_zero] at z0 z1 z2 z3 z4
          go_wp2_with fail
          refine bodyPost_ret (v := .agg #[.int .i64 0, .string ⟨#[]⟩, .int .i64 0, .int .i64 (a : Int), .int .i64 3]) (by simp [results, Tryz.results45, go_sem, z0, z1, z2, z3, z4]; try rfl) rfl ?_
          refine ⟨?_, resO_below HB9.out (Nat.le_refl _)⟩
          rw [HX.out, if_pos HC.out]
          rfl
        have t1 : ((k : Int) == (a : Int)) = false := by simp; omega
        cases g
        · have hVd : V = (dvR s a k : Int) := by
            rcases HN.out.2.2 with ⟨-, h⟩ | ⟨h, -⟩
            · exact h
            · cases h
          by_cases hVM : 9007199254740991 < V
          · have t2 : decide ((9007199254740991 : Int) < V) = true := decide_eq_true hVM
            have HC : Hid (D = 0 ∨ 9007199254740991 < dvR s a k ∨ (¬ True ∧ dvR s a k = 0)) := Lib.hid (Or.inr (Or.inl (by omega)))
            clear hD0 hk hDk hkN hkD
            clear hVd
            go_wp2_with fail
            refine (wrong_ref (a : Int) w0).mono ?_
            rintro e w9 ⟨rfl, hb9⟩
            have HR9 := Lib.hid (row_blk HR.out (hb9.block _ (show w.heap.size < w0.heap.size by rw [HS0.out]; omega)))
            have HB9 := Lib.hid (HB0.out.trans (hb9.mono (by rw [HS0.out]; omega)))
            clear hb9
            have z0 := HR9.out.cell (show 0 < 5 by decide)
            have z1 := HR9.out.cell (show 1 < 5 by decide)
            have z2 := HR9.out.cell (show 2 < 5 by decide)
            have z3 := HR9.out.cell (show 3 < 5 by decide)
            have z4 := HR9.out.cell (show 4 < 5 by decide)
            have g0 := HR9.out.frozen 0
            have g1 := HR9.out.frozen 1
            have g2 := HR9.out.frozen 2
            have g3 := HR9.out.frozen 3
            have g4 := HR9.out.frozen 4
            simp only [o5, List.getD_cons_succ, List.getD_cons_zero] at z0 z1 z2 z3 z4
            go_wp2_with fail
            refine bodyPost_ret (v := .agg #[.int .i64 0, .string ⟨#[]⟩, .int .i64 0, .int .i64 (a : Int), .int .i64 3]) (by simp [results, Tryz.results45, go_sem, z0, z1, z2, z3, z4]; try rfl) rfl ?_
            refine ⟨?_, resO_below HB9.out (Nat.le_refl _)⟩
            rw [HX.out, if_pos HC.out]
            rfl
          have t2 : decide ((9007199254740991 : Int) < V) = false := decide_eq_false hVM
          have HNC : Hid (¬ (D = 0 ∨ 9007199254740991 < dvR s a k ∨ (¬ True ∧ dvR s a k = 0))) := Lib.hid (by rintro (h | h | h); exact hD0 h; omega; exact h.1 trivial)
          clear hVd hD0 hk hDk hkN hkD
          have HP : Hid (hdP (s.data.toList.drop k) = false) := Lib.hid (hdP_end hke)
          have z0 := HR.out.cell (show 0 < 5 by decide)
          have z1 := HR.out.cell (show 1 < 5 by decide)
          have z2 := HR.out.cell (show 2 < 5 by decide)
          have z3 := HR.out.cell (show 3 < 5 by decide)
          have z4 := HR.out.cell (show 4 < 5 by decide)
          have g0 := HR.out.frozen 0
          have g1 := HR.out.frozen 1
          have g2 := HR.out.frozen 2
          have g3 := HR.out.frozen 3
          have g4 := HR.out.frozen 4
          simp only [o5, List.getD_cons_succ, List.getD_cons_zero] at z0 z1 z2 z3 z4
          go_wp2_with fail
          refine bodyPost_ret (v := .agg #[.int .i64 3, .string (s.extract a k), .int .i64 a, .int .i64 k, .int .i64 0]) (by simp [results, Tryz.results45, go_sem, z0, z1, z2, z3, z4]; try rfl) rfl ?_
          refine ⟨?_, resO_below HB0.out (Nat.le_refl _)⟩
          rw [HX.out, if_neg HNC.out, if_neg (by rw [HP.out]; simp)]
          show _ = Ending.returned (.agg #[.int .i64 3, .string ⟨((s.data.toList.drop a).take (k - a)).toArray⟩, .int .i64 (a : Nat), .int .i64 ((a + (k - a) : Nat) : Int), .int .i64 0])
          rw [show a + (k - a) = k by omega, show (⟨((s.data.toList.drop a).take (k - a)).toArray⟩ : ByteArray) = s.extract a k by refine ByteArray.ext (Array.toList_inj.1 ?_); rw [List.toList_toArray, Lib.extract_data]]
        · have HC : Hid (D = 0 ∨ 9007199254740991 < dvR s a k ∨ (¬ True ∧ dvR s a k = 0)) := Lib.hid (Or.inr (Or.inl (by rcases HN.out.2.2 with ⟨h, -⟩ | ⟨-, -, h⟩; cases h; omega)))
          clear hD0 hk hDk hkN hkD
          go_wp2_with fail
          refine (wrong_ref (a : Int) w0).mono ?_
          rintro e w9 ⟨rfl, hb9⟩
          have HR9 := Lib.hid (row_blk HR.out (hb9.block _ (show w.heap.size < w0.heap.size by rw [HS0.out]; omega)))
          have HB9 := Lib.hid (HB0.out.trans (hb9.mono (by rw [HS0.out]; omega)))
          clear hb9
          have z0 := HR9.out.cell (show 0 < 5 by decide)
          have z1 := HR9.out.cell (show 1 < 5 by decide)
          have z2 := HR9.out.cell (show 2 < 5 by decide)
          have z3 := HR9.out.cell (show 3 < 5 by decide)
          have z4 := HR9.out.cell (show 4 < 5 by decide)
          have g0 := HR9.out.frozen 0
          have g1 := HR9.out.frozen 1
          have g2 := HR9.out.frozen 2
          have g3 := HR9.out.frozen 3
          have g4 := HR9.out.frozen 4
          simp only [o5, List.getD_cons_succ, List.getD_cons_zero] at z0 z1 z2 z3 z4
          go_wp2_with fail
          refine bodyPost_ret (v := .agg #[.int .i64 0, .string ⟨#[]⟩, .int .i64 0, .int .i64 (a : Int), .int .i64 3]) (by simp [results, Tryz.results45, go_sem, z0, z1, z2, z3, z4]; try rfl) rfl ?_
          refine ⟨?_, resO_below HB9.out (Nat.le_refl _)⟩
          rw [HX.out, if_pos HC.out]
          rfl
      have hks : k < s.size := by omega
      have hgk := get_bang s k hks
      obtain ⟨c, hcc⟩ : ∃ c : Int, ((s[k]'hks).toNat : Int) = c := ⟨_, rfl⟩
      have HCC := Lib.hid hcc
      have HPT : Hid (hdP (s.data.toList.drop k) = ((isL c || isD c) || (c == 46))) := Lib.hid (by rw [hdP_at hks, ptB_int, hgk, hcc])
      have HDG : Hid (dgB (s.get! k) = isD c) := Lib.hid (by unfold dgB; rw [hgk, hcc])
      cases hdf : isD c
      · have KD : Hid (Calls Tryz.prog 44 #[.int .u8 (s[k]'hks).toNat] w0 fun e w' => e = .returned (.bool false) ∧ w0 = w') := Lib.hid (by rw [hcc]; exact (digit_ref c _).mono (by rintro e w' ⟨rfl, rfl⟩; exact ⟨ret_bool hdf, rfl⟩))
        have KD2 : Hid (Calls Tryz.prog 44 #[.int .u8 c] w0 fun e w' => e = .returned (.bool false) ∧ w0 = w') := Lib.hid ((digit_ref c _).mono (by rintro e w' ⟨rfl, rfl⟩; exact ⟨ret_bool hdf, rfl⟩))
        clear hcc hgk HDG
        by_cases hD0 : D = 0
        · have t1 : ((k : Int) == (a : Int)) = true := by simp; omega
          have HC : Hid (D = 0 ∨ 9007199254740991 < dvR s a k ∨ (¬ True ∧ dvR s a k = 0)) := Lib.hid (Or.inl hD0)
          clear hD0 hk hDk hkN hkD
          go_wp2_with fail
          refine KD.out.mono ?_
          rintro e w1 ⟨rfl, rfl⟩
          go_wp2_with fail
          refine (wrong_ref (a : Int) w0).mono ?_
          rintro e w9 ⟨rfl, hb9⟩
          have HR9 := Lib.hid (row_blk HR.out (hb9.block _ (show w.heap.size < w0.heap.size by rw [HS0.out]; omega)))
          have HB9 := Lib.hid (HB0.out.trans (hb9.mono (by rw [HS0.out]; omega)))
          clear hb9
          have z0 := HR9.out.cell (show 0 < 5 by decide)
          have z1 := HR9.out.cell (show 1 < 5 by decide)
          have z2 := HR9.out.cell (show 2 < 5 by decide)
          have z3 := HR9.out.cell (show 3 < 5 by decide)
          have z4 := HR9.out.cell (show 4 < 5 by decide)
          have g0 := HR9.out.frozen 0
          have g1 := HR9.out.frozen 1
          have g2 := HR9.out.frozen 2
          have g3 := HR9.out.frozen 3
          have g4 := HR9.out.frozen 4
          simp only [o5, List.getD_cons_succ, List.getD_cons_zero] at z0 z1 z2 z3 z4
          go_wp2_with fail
          refine bodyPost_ret (v := .agg #[.int .i64 0, .string ⟨#[]⟩, .int .i64 0, .int .i64 (a : Int), .int .i64 3]) (by simp [results, Tryz.results45, go_sem, z0, z1, z2, z3, z4]; try rfl) rfl ?_
          refine ⟨?_, resO_below HB9.out (Nat.le_refl _)⟩
          rw [HX.out, if_pos HC.out]
          rfl
        have t1 : ((k : Int) == (a : Int)) = false := by simp; omega
        cases g
        · have hVd : V = (dvR s a k : Int) := by
            rcases HN.out.2.2 with ⟨-, h⟩ | ⟨h, -⟩
            · exact h
            · cases h
          by_cases hVM : 9007199254740991 < V
          · have t2 : decide ((9007199254740991 : Int) < V) = true := decide_eq_true hVM
            have HC : Hid (D = 0 ∨ 9007199254740991 < dvR s a k ∨ (¬ True ∧ dvR s a k = 0)) := Lib.hid (Or.inr (Or.inl (by omega)))
            clear hD0 hk hDk hkN hkD
            clear hVd
            go_wp2_with fail
            refine KD.out.mono ?_
            rintro e w1 ⟨rfl, rfl⟩
            go_wp2_with fail
            refine (wrong_ref (a : Int) w0).mono ?_
            rintro e w9 ⟨rfl, hb9⟩
            have HR9 := Lib.hid (row_blk HR.out (hb9.block _ (show w.heap.size < w0.heap.size by rw [HS0.out]; omega)))
            have HB9 := Lib.hid (HB0.out.trans (hb9.mono (by rw [HS0.out]; omega)))
            clear hb9
            have z0 := HR9.out.cell (show 0 < 5 by decide)
            have z1 := HR9.out.cell (show 1 < 5 by decide)
            have z2 := HR9.out.cell (show 2 < 5 by decide)
            have z3 := HR9.out.cell (show 3 < 5 by decide)
            have z4 := HR9.out.cell (show 4 < 5 by decide)
            have g0 := HR9.out.frozen 0
            have g1 := HR9.out.frozen 1
            have g2 := HR9.out.frozen 2
            have g3 := HR9.out.frozen 3
            have g4 := HR9.out.frozen 4
            simp only [o5, List.getD_cons_succ, List.getD_cons_zero] at z0 z1 z2 z3 z4
            go_wp2_with fail
            refine bodyPost_ret (v := .agg #[.int .i64 0, .string ⟨#[]⟩, .int .i64 0, .int .i64 (a : Int), .int .i64 3]) (by simp [results, Tryz.results45, go_sem, z0, z1, z2, z3, z4]; try rfl) rfl ?_
            refine ⟨?_, resO_below HB9.out (Nat.le_refl _)⟩
            rw [HX.out, if_pos HC.out]
            rfl
          have t2 : decide ((9007199254740991 : Int) < V) = false := decide_eq_false hVM
          have HNC : Hid (¬ (D = 0 ∨ 9007199254740991 < dvR s a k ∨ (¬ True ∧ dvR s a k = 0))) := Lib.hid (by rintro (h | h | h); exact hD0 h; omega; exact h.1 trivial)
          clear hVd hD0 hk hDk hkN hkD
          have KL := Lib.hid (letter_ref c w0)
          cases hl : isL c
          · rw [hl] at KL
            cases h46 : (c == 46)
            · have HP : Hid (hdP (s.data.toList.drop k) = false) := Lib.hid (by rw [HPT.out, hl, hdf, h46]; rfl)
              have h46' : (((s[k]'hks).toNat : Int) == 46) = false := by rw [HCC.out]; exact h46
              clear hl
              have z0 := HR.out.cell (show 0 < 5 by decide)
              have z1 := HR.out.cell (show 1 < 5 by decide)
              have z2 := HR.out.cell (show 2 < 5 by decide)
              have z3 := HR.out.cell (show 3 < 5 by decide)
              have z4 := HR.out.cell (show 4 < 5 by decide)
              have g0 := HR.out.frozen 0
              have g1 := HR.out.frozen 1
              have g2 := HR.out.frozen 2
              have g3 := HR.out.frozen 3
              have g4 := HR.out.frozen 4
              simp only [o5, List.getD_cons_succ, List.getD_cons_zero] at z0 z1 z2 z3 z4
              go_wp2_with fail
              refine KD.out.mono ?_
              rintro e w1 ⟨rfl, rfl⟩
              go_wp2_with fail
              rw [HCC.out]
              refine KL.out.mono ?_
              rintro e w2 ⟨rfl, rfl⟩
              go_wp2_with fail
              rw [HCC.out]
              refine KD2.out.mono ?_
              rintro e w2 ⟨rfl, rfl⟩
              go_wp2_with fail
              refine bodyPost_ret (v := .agg #[.int .i64 3, .string (s.extract a k), .int .i64 a, .int .i64 k, .int .i64 0]) (by simp [results, Tryz.results45, go_sem, z0, z1, z2, z3, z4]; try rfl) rfl ?_
              refine ⟨?_, resO_below HB0.out (Nat.le_refl _)⟩
              rw [HX.out, if_neg HNC.out, if_neg (by rw [HP.out]; simp)]
              show _ = Ending.returned (.agg #[.int .i64 3, .string ⟨((s.data.toList.drop a).take (k - a)).toArray⟩, .int .i64 (a : Nat), .int .i64 ((a + (k - a) : Nat) : Int), .int .i64 0])
              rw [show a + (k - a) = k by omega, show (⟨((s.data.toList.drop a).take (k - a)).toArray⟩ : ByteArray) = s.extract a k by refine ByteArray.ext (Array.toList_inj.1 ?_); rw [List.toList_toArray, Lib.extract_data]]
            · have HP : Hid (hdP (s.data.toList.drop k) = true) := Lib.hid (by rw [HPT.out, hl, hdf, h46]; rfl)
              have h46' : (((s[k]'hks).toNat : Int) == 46) = true := by rw [HCC.out]; exact h46
              clear hl
              go_wp2_with fail
              refine KD.out.mono ?_
              rintro e w1 ⟨rfl, rfl⟩
              go_wp2_with fail
              rw [HCC.out]
              refine KL.out.mono ?_
              rintro e w2 ⟨rfl, rfl⟩
              go_wp2_with fail
              rw [HCC.out]
              refine KD2.out.mono ?_
              rintro e w2 ⟨rfl, rfl⟩
              go_wp2_with fail
              refine (wrong_ref (k : Int) w0).mono ?_
              rintro e w9 ⟨rfl, hb9⟩
              have HR9 := Lib.hid (row_blk HR.out (hb9.block _ (show w.heap.size < w0.heap.size by rw [HS0.out]; omega)))
              have HB9 := Lib.hid (HB0.out.trans (hb9.mono (by rw [HS0.out]; omega)))
              clear hb9
              have z0 := HR9.out.cell (show 0 < 5 by decide)
              have z1 := HR9.out.cell (show 1 < 5 by decide)
              have z2 := HR9.out.cell (show 2 < 5 by decide)
              have z3 := HR9.out.cell (show 3 < 5 by decide)
              have z4 := HR9.out.cell (show 4 < 5 by decide)
              have g0 := HR9.out.frozen 0
              have g1 := HR9.out.frozen 1
              have g2 := HR9.out.frozen 2
              have g3 := HR9.out.frozen 3
              have g4 := HR9.out.frozen 4
              simp only [o5, List.getD_cons_succ, List.getD_cons_zero] at z0 z1 z2 z3 z4
              go_wp2_with fail
              refine bodyPost_ret (v := .agg #[.int .i64 0, .string ⟨#[]⟩, .int .i64 0, .int .i64 (k : Int), .int .i64 3]) (by simp [results, Tryz.results45, go_sem, z0, z1, z2, z3, z4]; try rfl) rfl ?_
              refine ⟨?_, resO_below HB9.out (Nat.le_refl _)⟩
              rw [HX.out, if_neg HNC.out, if_pos HP.out]
              show _ = Ending.returned (.agg #[.int .i64 0, .string ⟨#[]⟩, .int .i64 0, .int .i64 ((a + (k - a) : Nat) : Int), .int .i64 3])
              rw [show a + (k - a) = k by omega]

          · rw [hl] at KL
            have HP : Hid (hdP (s.data.toList.drop k) = true) := Lib.hid (by rw [HPT.out, hl]; rfl)
            clear hl
            go_wp2_with fail
            refine KD.out.mono ?_
            rintro e w1 ⟨rfl, rfl⟩
            go_wp2_with fail
            rw [HCC.out]
            refine KL.out.mono ?_
            rintro e w2 ⟨rfl, rfl⟩
            go_wp2_with fail
            refine (wrong_ref (k : Int) w0).mono ?_
            rintro e w9 ⟨rfl, hb9⟩
            have HR9 := Lib.hid (row_blk HR.out (hb9.block _ (show w.heap.size < w0.heap.size by rw [HS0.out]; omega)))
            have HB9 := Lib.hid (HB0.out.trans (hb9.mono (by rw [HS0.out]; omega)))
            clear hb9
            have z0 := HR9.out.cell (show 0 < 5 by decide)
            have z1 := HR9.out.cell (show 1 < 5 by decide)
            have z2 := HR9.out.cell (show 2 < 5 by decide)
            have z3 := HR9.out.cell (show 3 < 5 by decide)
            have z4 := HR9.out.cell (show 4 < 5 by decide)
            have g0 := HR9.out.frozen 0
            have g1 := HR9.out.frozen 1
            have g2 := HR9.out.frozen 2
            have g3 := HR9.out.frozen 3
            have g4 := HR9.out.frozen 4
            simp only [o5, List.getD_cons_succ, List.getD_cons_zero] at z0 z1 z2 z3 z4
            go_wp2_with fail
            refine bodyPost_ret (v := .agg #[.int .i64 0, .string ⟨#[]⟩, .int .i64 0, .int .i64 (k : Int), .int .i64 3]) (by simp [results, Tryz.results45, go_sem, z0, z1, z2, z3, z4]; try rfl) rfl ?_
            refine ⟨?_, resO_below HB9.out (Nat.le_refl _)⟩
            rw [HX.out, if_neg HNC.out, if_pos HP.out]
            show _ = Ending.returned (.agg #[.int .i64 0, .string ⟨#[]⟩, .int .i64 0, .int .i64 ((a + (k - a) : Nat) : Int), .int .i64 3])
            rw [show a + (k - a) = k by omega]

        · have HC : Hid (D = 0 ∨ 9007199254740991 < dvR s a k ∨ (¬ True ∧ dvR s a k = 0)) := Lib.hid (Or.inr (Or.inl (by rcases HN.out.2.2 with ⟨h, -⟩ | ⟨-, -, h⟩; cases h; omega)))
          clear hD0 hk hDk hkN hkD
          go_wp2_with fail
          refine KD.out.mono ?_
          rintro e w1 ⟨rfl, rfl⟩
          go_wp2_with fail
          refine (wrong_ref (a : Int) w0).mono ?_
          rintro e w9 ⟨rfl, hb9⟩
          have HR9 := Lib.hid (row_blk HR.out (hb9.block _ (show w.heap.size < w0.heap.size by rw [HS0.out]; omega)))
          have HB9 := Lib.hid (HB0.out.trans (hb9.mono (by rw [HS0.out]; omega)))
          clear hb9
          have z0 := HR9.out.cell (show 0 < 5 by decide)
          have z1 := HR9.out.cell (show 1 < 5 by decide)
          have z2 := HR9.out.cell (show 2 < 5 by decide)
          have z3 := HR9.out.cell (show 3 < 5 by decide)
          have z4 := HR9.out.cell (show 4 < 5 by decide)
          have g0 := HR9.out.frozen 0
          have g1 := HR9.out.frozen 1
          have g2 := HR9.out.frozen 2
          have g3 := HR9.out.frozen 3
          have g4 := HR9.out.frozen 4
          simp only [o5, List.getD_cons_succ, List.getD_cons_zero] at z0 z1 z2 z3 z4
          go_wp2_with fail
          refine bodyPost_ret (v := .agg #[.int .i64 0, .string ⟨#[]⟩, .int .i64 0, .int .i64 (a : Int), .int .i64 3]) (by simp [results, Tryz.results45, go_sem, z0, z1, z2, z3, z4]; try rfl) rfl ?_
          refine ⟨?_, resO_below HB9.out (Nat.le_refl _)⟩
          rw [HX.out, if_pos HC.out]
          rfl
      · obtain ⟨h1, h48⟩ : k = a + 1 ∧ (s.get! a).toNat = 48 := by
          rcases dig_out (s := s) (F := a) (k := k) (by rw [HD2.out]; exact hk.symm) hks with h | h
          · rw [HDG.out, hdf] at h; cases h
          · exact h
        have hFs : a < s.size := by omega
        have e1 : ((k : Int) == (a : Int) + 1) = true := by rw [h1]; simp
        have e48 : (((s[a]'hFs).toNat : Int) == 48) = true := by rw [← get_bang s a hFs, h48]; rfl
        have KD : Hid (Calls Tryz.prog 44 #[.int .u8 (s[k]'hks).toNat] w0 fun e w' => e = .returned (.bool true) ∧ w0 = w') := Lib.hid (by rw [hcc]; exact (digit_ref c _).mono (by rintro e w' ⟨rfl, rfl⟩; exact ⟨ret_bool hdf, rfl⟩))
        have KD2 : Hid (Calls Tryz.prog 44 #[.int .u8 c] w0 fun e w' => e = .returned (.bool true) ∧ w0 = w') := Lib.hid ((digit_ref c _).mono (by rintro e w' ⟨rfl, rfl⟩; exact ⟨ret_bool hdf, rfl⟩))
        clear hcc hgk HDG h48 h1
        by_cases hD0 : D = 0
        · have t1 : ((k : Int) == (a : Int)) = true := by simp; omega
          have HC : Hid (D = 0 ∨ 9007199254740991 < dvR s a k ∨ (¬ True ∧ dvR s a k = 0)) := Lib.hid (Or.inl hD0)
          clear hD0 hk hDk hkN hkD
          go_wp2_with fail
          refine KD.out.mono ?_
          rintro e w1 ⟨rfl, rfl⟩
          go_wp2_with fail
          refine (wrong_ref (a : Int) w0).mono ?_
          rintro e w9 ⟨rfl, hb9⟩
          have HR9 := Lib.hid (row_blk HR.out (hb9.block _ (show w.heap.size < w0.heap.size by rw [HS0.out]; omega)))
          have HB9 := Lib.hid (HB0.out.trans (hb9.mono (by rw [HS0.out]; omega)))
          clear hb9
          have z0 := HR9.out.cell (show 0 < 5 by decide)
          have z1 := HR9.out.cell (show 1 < 5 by decide)
          have z2 := HR9.out.cell (show 2 < 5 by decide)
          have z3 := HR9.out.cell (show 3 < 5 by decide)
          have z4 := HR9.out.cell (show 4 < 5 by decide)
          have g0 := HR9.out.frozen 0
          have g1 := HR9.out.frozen 1
          have g2 := HR9.out.frozen 2
          have g3 := HR9.out.frozen 3
          have g4 := HR9.out.frozen 4
          simp only [o5, List.getD_cons_succ, List.getD_cons_zero] at z0 z1 z2 z3 z4
          go_wp2_with fail
          refine bodyPost_ret (v := .agg #[.int .i64 0, .string ⟨#[]⟩, .int .i64 0, .int .i64 (a : Int), .int .i64 3]) (by simp [results, Tryz.results45, go_sem, z0, z1, z2, z3, z4]; try rfl) rfl ?_
          refine ⟨?_, resO_below HB9.out (Nat.le_refl _)⟩
          rw [HX.out, if_pos HC.out]
          rfl
        have t1 : ((k : Int) == (a : Int)) = false := by simp; omega
        cases g
        · have hVd : V = (dvR s a k : Int) := by
            rcases HN.out.2.2 with ⟨-, h⟩ | ⟨h, -⟩
            · exact h
            · cases h
          by_cases hVM : 9007199254740991 < V
          · have t2 : decide ((9007199254740991 : Int) < V) = true := decide_eq_true hVM
            have HC : Hid (D = 0 ∨ 9007199254740991 < dvR s a k ∨ (¬ True ∧ dvR s a k = 0)) := Lib.hid (Or.inr (Or.inl (by omega)))
            clear hD0 hk hDk hkN hkD
            clear hVd
            go_wp2_with fail
            refine KD.out.mono ?_
            rintro e w1 ⟨rfl, rfl⟩
            go_wp2_with fail
            refine (wrong_ref (a : Int) w0).mono ?_
            rintro e w9 ⟨rfl, hb9⟩
            have HR9 := Lib.hid (row_blk HR.out (hb9.block _ (show w.heap.size < w0.heap.size by rw [HS0.out]; omega)))
            have HB9 := Lib.hid (HB0.out.trans (hb9.mono (by rw [HS0.out]; omega)))
            clear hb9
            have z0 := HR9.out.cell (show 0 < 5 by decide)
            have z1 := HR9.out.cell (show 1 < 5 by decide)
            have z2 := HR9.out.cell (show 2 < 5 by decide)
            have z3 := HR9.out.cell (show 3 < 5 by decide)
            have z4 := HR9.out.cell (show 4 < 5 by decide)
            have g0 := HR9.out.frozen 0
            have g1 := HR9.out.frozen 1
            have g2 := HR9.out.frozen 2
            have g3 := HR9.out.frozen 3
            have g4 := HR9.out.frozen 4
            simp only [o5, List.getD_cons_succ, List.getD_cons_zero] at z0 z1 z2 z3 z4
            go_wp2_with fail
            refine bodyPost_ret (v := .agg #[.int .i64 0, .string ⟨#[]⟩, .int .i64 0, .int .i64 (a : Int), .int .i64 3]) (by simp [results, Tryz.results45, go_sem, z0, z1, z2, z3, z4]; try rfl) rfl ?_
            refine ⟨?_, resO_below HB9.out (Nat.le_refl _)⟩
            rw [HX.out, if_pos HC.out]
            rfl
          have t2 : decide ((9007199254740991 : Int) < V) = false := decide_eq_false hVM
          have HNC : Hid (¬ (D = 0 ∨ 9007199254740991 < dvR s a k ∨ (¬ True ∧ dvR s a k = 0))) := Lib.hid (by rintro (h | h | h); exact hD0 h; omega; exact h.1 trivial)
          clear hVd hD0 hk hDk hkN hkD
          have HP : Hid (hdP (s.data.toList.drop k) = true) := Lib.hid (by rw [HPT.out, hdf]; simp)
          have hl : isL c = false := by unfold isL; unfold isD at hdf; simp at hdf; rw [Bool.eq_false_iff]; simp; omega
          have KL := Lib.hid (letter_ref c w0)
          rw [hl] at KL
          clear hl
          go_wp2_with fail
          refine KD.out.mono ?_
          rintro e w1 ⟨rfl, rfl⟩
          go_wp2_with fail
          rw [HCC.out]
          refine KL.out.mono ?_
          rintro e w2 ⟨rfl, rfl⟩
          go_wp2_with fail
          rw [HCC.out]
          refine KD2.out.mono ?_
          rintro e w2 ⟨rfl, rfl⟩
          go_wp2_with fail
          refine (wrong_ref (k : Int) w0).mono ?_
          rintro e w9 ⟨rfl, hb9⟩
          have HR9 := Lib.hid (row_blk HR.out (hb9.block _ (show w.heap.size < w0.heap.size by rw [HS0.out]; omega)))
          have HB9 := Lib.hid (HB0.out.trans (hb9.mono (by rw [HS0.out]; omega)))
          clear hb9
          have z0 := HR9.out.cell (show 0 < 5 by decide)
          have z1 := HR9.out.cell (show 1 < 5 by decide)
          have z2 := HR9.out.cell (show 2 < 5 by decide)
          have z3 := HR9.out.cell (show 3 < 5 by decide)
          have z4 := HR9.out.cell (show 4 < 5 by decide)
          have g0 := HR9.out.frozen 0
          have g1 := HR9.out.frozen 1
          have g2 := HR9.out.frozen 2
          have g3 := HR9.out.frozen 3
          have g4 := HR9.out.frozen 4
          simp only [o5, List.getD_cons_succ, List.getD_cons_zero] at z0 z1 z2 z3 z4
          go_wp2_with fail
          refine bodyPost_ret (v := .agg #[.int .i64 0, .string ⟨#[]⟩, .int .i64 0, .int .i64 (k : Int), .int .i64 3]) (by simp [results, Tryz.results45, go_sem, z0, z1, z2, z3, z4]; try rfl) rfl ?_
          refine ⟨?_, resO_below HB9.out (Nat.le_refl _)⟩
          rw [HX.out, if_neg HNC.out, if_pos HP.out]
          show _ = Ending.returned (.agg #[.int .i64 0, .string ⟨#[]⟩, .int .i64 0, .int .i64 ((a + (k - a) : Nat) : Int), .int .i64 3])
          rw [show a + (k - a) = k by omega]

        · have HC : Hid (D = 0 ∨ 9007199254740991 < dvR s a k ∨ (¬ True ∧ dvR s a k = 0)) := Lib.hid (Or.inr (Or.inl (by rcases HN.out.2.2 with ⟨h, -⟩ | ⟨-, -, h⟩; cases h; omega)))
          clear hD0 hk hDk hkN hkD
          go_wp2_with fail
          refine KD.out.mono ?_
          rintro e w1 ⟨rfl, rfl⟩
          go_wp2_with fail
          refine (wrong_ref (a : Int) w0).mono ?_
          rintro e w9 ⟨rfl, hb9⟩
          have HR9 := Lib.hid (row_blk HR.out (hb9.block _ (show w.heap.size < w0.heap.size by rw [HS0.out]; omega)))
          have HB9 := Lib.hid (HB0.out.trans (hb9.mono (by rw [HS0.out]; omega)))
          clear hb9
          have z0 := HR9.out.cell (show 0 < 5 by decide)
          have z1 := HR9.out.cell (show 1 < 5 by decide)
          have z2 := HR9.out.cell (show 2 < 5 by decide)
          have z3 := HR9.out.cell (show 3 < 5 by decide)
          have z4 := HR9.out.cell (show 4 < 5 by decide)
          have g0 := HR9.out.frozen 0
          have g1 := HR9.out.frozen 1
          have g2 := HR9.out.frozen 2
          have g3 := HR9.out.frozen 3
          have g4 := HR9.out.frozen 4
          simp only [o5, List.getD_cons_succ, List.getD_cons_zero] at z0 z1 z2 z3 z4
          go_wp2_with fail
          refine bodyPost_ret (v := .agg #[.int .i64 0, .string ⟨#[]⟩, .int .i64 0, .int .i64 (a : Int), .int .i64 3]) (by simp [results, Tryz.results45, go_sem, z0, z1, z2, z3, z4]; try rfl) rfl ?_
          refine ⟨?_, resO_below HB9.out (Nat.le_refl _)⟩
          rw [HX.out, if_pos HC.out]
          rfl
end Go.Proofs.YtejniiehfangkaaGreatDoor

/- The document's own numbers, with a sign. -/
set_option linter.unusedVariables false
set_option linter.unusedSimpArgs false
namespace Go.Proofs.YtejniiehfangkaaGreatDoor
open Go.RowKit
set_option maxHeartbeats 8000000 in
set_option maxRecDepth 100000 in
theorem number_ref1 (s : ByteArray) (a : Nat) (ha : a < s.size) (hs : s.size ≤ 1000000) (h45 : (((s[a]'ha).toNat : Int) == 45) = true) (G : Fst) (hG : numX (s.data.toList.drop a) = G) (w : World) : Calls Tryz.prog 45 #[.string s, .int .i64 (a : Nat)] w fun e w' => OneR G a e ∧ Below w.heap.size w w' := by
  have hsg : sgN (s.data.toList.drop a) = 1 := by
    have hga := get_bang s a ha
    have hh : hd45 (s.data.toList.drop a) = true := by
      rw [drop_cons s a ha]
      show ((s.get! a).toNat == 45) = true
      rw [hga]
      simp only [beq_iff_eq] at h45 ⊢; omega
    unfold sgN
    rw [hh]
    rfl
  obtain ⟨D, hD⟩ : ∃ D, dgN (s.data.toList.drop a) = D := ⟨_, rfl⟩
  have hD2 : (if hd48 (s.data.toList.drop (a + 1)) then 1 else tk dgB (s.data.toList.drop (a + 1))) = D := by
    rw [← hD]; unfold dgN; rw [hsg, List.drop_drop]
  have hNs : (a + 1) + D ≤ s.size := by
    have := dgN_le (s.data.toList.drop a)
    rw [hsg, hD, List.length_drop, ← Lib.size_eq] at this
    omega
  -- what it comes to
  have hX : G = (if D = 0 ∨ 9007199254740991 < dvR s (a + 1) ((a + 1) + D) ∨ (True ∧ dvR s (a + 1) ((a + 1) + D) = 0) then .no 0 else if hdP (s.data.toList.drop ((a + 1) + D)) = true then .no ((a + 1) + D - a) else .ok 3 ((s.data.toList.drop a).take ((a + 1) + D - a)) ((a + 1) + D - a)) := by
    rw [← hG]
    have hv : vlN (s.data.toList.drop a) = dvR s (a + 1) ((a + 1) + D) := by unfold vlN dvR; rw [hsg, hD, List.drop_drop, Nat.add_sub_cancel_left]
    have hsum : (a + 1) + D - a = 1 + D := by omega
    unfold numX numL
    rw [hv, hD, hsg]
    by_cases c : D = 0 ∨ 9007199254740991 < dvR s (a + 1) ((a + 1) + D) ∨ (True ∧ dvR s (a + 1) ((a + 1) + D) = 0)
    · rw [if_pos c, if_pos (by simpa using c)]
    · rw [if_neg c, if_neg (by simpa using c), hsum]
      dsimp only
      rw [List.drop_drop, show a + (1 + D) = (a + 1) + D by omega]
  have HX := Lib.hid hX
  have HD2 := Lib.hid hD2
  have HR := Lib.hid (row5 (heap_alloc_new w zO))
  have HB0 := Lib.hid ((Below.refl w.heap.size w).alloc (Nat.le_refl _) zO)
  have HS0 := Lib.hid (show (w.alloc zO).heap.size = w.heap.size + 1 by simp)
  clear hsg hD hD2 hX hG
  go_enter Tryz.func45, Tryz.ntmps45
  go_wp2_with fail
  generalize w.alloc zO = w0 at HR HB0 HS0 ⊢
  go_loopw [6, 7, 8] (fun v6 v7 v8 wr => ∃ (k : Nat) (V : Int) (g : Bool), v6 = .int .i64 (k : Nat) ∧ v7 = .int .i64 V ∧ v8 = .bool g ∧ (a + 1) ≤ k ∧ k ≤ (a + 1) + D ∧ NumI s (a + 1) k V g ∧ w0 = wr) (fun v6 _ _ _ => s.size - (intOf v6).toNat)
  case atStart => exact ⟨(a + 1), 0, false, by go_num, rfl, rfl, Nat.le_refl _, by omega, ⟨by decide, by decide, .inl ⟨rfl, by unfold dvR; rw [Nat.sub_self]; rfl⟩⟩, rfl⟩
  case round =>
    obtain ⟨k, V, g, rfl, rfl, rfl, hFk, hkN, hN, rfl⟩ := hrel
    have HN := Lib.hid hN
    have hV0 := hN.1
    have hV1 := hN.2.1
    clear hN
    by_cases hkD : k < (a + 1) + D
    · have hks : k < s.size := by omega
      have hFs : (a + 1) < s.size := by omega
      obtain ⟨hdg, hno⟩ := dig_in (s := s) hFk (by rw [HD2.out]; exact hkD) hks
      have hgk := get_bang s k hks
      have hgF := get_bang s (a + 1) hFs
      have hc := dgB_is hdg
      have HNX := Lib.hid (HN.out.more (dvR_next (s := s) hFk hks) (by omega))
      rw [hgk] at HNX hc hdg
      obtain ⟨hc0, hc1⟩ := hc
      have HCD : Hid ((((s[k]'hks).toNat - 48 : Nat) : Int) = ((s[k]'hks).toNat : Int) - 48) := Lib.hid (by omega)
      have KD : Hid (Calls Tryz.prog 44 #[.int .u8 (s[k]'hks).toNat] w0 fun e w' => e = .returned (.bool true) ∧ w0 = w') := Lib.hid ((digit_ref _ _).mono (by rintro e w' ⟨rfl, rfl⟩; exact ⟨ret_bool hdg, rfl⟩))
      clear hdg hgk
      by_cases h1 : k = (a + 1) + 1
      · have e1 : ((k : Int) == ((a : Int) + 1) + 1) = true := by rw [h1]; simp
        have e48 : (((s[(a + 1)]'hFs).toNat : Int) == 48) = false := beq_eq_false_iff_ne.2 (by have := hno h1; rw [hgF] at this; omega)
        clear hno hgF
        by_cases hV : V < 1000000000000000
        · have dV : decide (V < 1000000000000000) = true := decide_eq_true hV
          have HM := Lib.hid (HNX.out.1 hV)
          clear hV h1
          go_wp2_with fail
          refine KD.out.mono ?_
          rintro e w1 ⟨rfl, rfl⟩
          go_wp2_with fail
          exact ⟨⟨k + 1, V * 10 + (((s[k]'hks).toNat - 48 : Nat) : Int), g, by go_num, by rw [HCD.out]; congr 1; omega, rfl, by omega, by omega, HM.out, by first | rfl | trivial⟩, by simp [intOf]; omega⟩
        · have dV : decide (V < 1000000000000000) = false := decide_eq_false hV
          have HM := Lib.hid (HNX.out.2 hV)
          clear hV h1
          go_wp2_with fail
          refine KD.out.mono ?_
          rintro e w1 ⟨rfl, rfl⟩
          go_wp2_with fail
          exact ⟨⟨k + 1, V, true, by go_num, rfl, rfl, by omega, by omega, HM.out, by first | rfl | trivial⟩, by simp [intOf]; omega⟩
      · have e1 : ((k : Int) == ((a : Int) + 1) + 1) = false := by simp; omega
        clear hno hgF
        by_cases hV : V < 1000000000000000
        · have dV : decide (V < 1000000000000000) = true := decide_eq_true hV
          have HM := Lib.hid (HNX.out.1 hV)
          clear hV h1
          go_wp2_with fail
          refine KD.out.mono ?_
          rintro e w1 ⟨rfl, rfl⟩
          go_wp2_with fail
          exact ⟨⟨k + 1, V * 10 + (((s[k]'hks).toNat - 48 : Nat) : Int), g, by go_num, by rw [HCD.out]; congr 1; omega, rfl, by omega, by omega, HM.out, by first | rfl | trivial⟩, by simp [intOf]; omega⟩
        · have dV : decide (V < 1000000000000000) = false := decide_eq_false hV
          have HM := Lib.hid (HNX.out.2 hV)
          clear hV h1
          go_wp2_with fail
          refine KD.out.mono ?_
          rintro e w1 ⟨rfl, rfl⟩
          go_wp2_with fail
          exact ⟨⟨k + 1, V, true, by go_num, rfl, rfl, by omega, by omega, HM.out, by first | rfl | trivial⟩, by simp [intOf]; omega⟩
    · obtain rfl : k = (a + 1) + D := by omega
      obtain ⟨k, hk⟩ : ∃ k, (a + 1) + D = k := ⟨_, rfl⟩
      rw [hk] at HN HX hNs hFk ⊢
      have hDk : D = k - (a + 1) := by omega
      by_cases hke : ¬ k < s.size
      · have dlt : decide ((k : Int) < (s.size : Int)) = false := decide_eq_false (by omega)
        by_cases hD0 : D = 0
        · have t1 : ((k : Int) == ((a : Int) + 1)) = true := by simp; omega
          have HC : Hid (D = 0 ∨ 9007199254740991 < dvR s (a + 1) k ∨ (True ∧ dvR s (a + 1) k = 0)) := Lib.hid (Or.inl hD0)
          clear hD0 hk hDk hkN hkD
          go_wp2_with fail
          refine (wrong_ref (a : Int) w0).mono ?_
          rintro e w9 ⟨rfl, hb9⟩
          have HR9 := Lib.hid (row_blk HR.out (hb9.block _ (show w.heap.size < w0.heap.size by rw [HS0.out]; omega)))
          have HB9 := Lib.hid (HB0.out.trans (hb9.mono (by rw [HS0.out]; omega)))
          clear hb9
          have z0 := HR9.out.cell (show 0 < 5 by decide)
          have z1 := HR9.out.cell (show 1 < 5 by decide)
          have z2 := HR9.out.cell (show 2 < 5 by decide)
          have z3 := HR9.out.cell (show 3 < 5 by decide)
          have z4 := HR9.out.cell (show 4 < 5 by decide)
          have g0 := HR9.out.frozen 0
          have g1 := HR9.out.frozen 1
          have g2 := HR9.out.frozen 2
          have g3 := HR9.out.frozen 3
          have g4 := HR9.out.frozen 4
          simp only [o5, List.getD_cons_succ, List.getD_cons_zero] at z0 z1 z2 z3 z4
          go_wp2_with fail
          refine bodyPost_ret (v := .agg #[.int .i64 0, .string ⟨#[]⟩, .int .i64 0, .int .i64 (a : Int), .int .i64 3]) (by simp [results, Tryz.results45, go_sem, z0, z1, z2, z3, z4]; try rfl) rfl ?_
          refine ⟨?_, resO_below HB9.out (Nat.le_refl _)⟩
          rw [HX.out, if_pos HC.out]
          rfl
        have t1 : ((k : Int) == ((a : Int) + 1)) = false := by simp; omega
        cases g
        · have hVd : V = (dvR s (a + 1) k : Int) := by
            rcases HN.out.2.2 with ⟨-, h⟩ | ⟨h, -⟩
            · exact h
            · cases h
          by_cases hVM : 9007199254740991 < V
          · have t2 : decide ((9007199254740991 : Int) < V) = true := decide_eq_true hVM
            have HC : Hid (D = 0 ∨ 9007199254740991 < dvR s (a + 1) k ∨ (True ∧ dvR s (a + 1) k = 0)) := Lib.hid (Or.inr (Or.inl (by omega)))
            clear hD0 hk hDk hkN hkD
            clear hVd
            go_wp2_with fail
            refine (wrong_ref (a : Int) w0).mono ?_
            rintro e w9 ⟨rfl, hb9⟩
            have HR9 := Lib.hid (row_blk HR.out (hb9.block _ (show w.heap.size < w0.heap.size by rw [HS0.out]; omega)))
            have HB9 := Lib.hid (HB0.out.trans (hb9.mono (by rw [HS0.out]; omega)))
            clear hb9
            have z0 := HR9.out.cell (show 0 < 5 by decide)
            have z1 := HR9.out.cell (show 1 < 5 by decide)
            have z2 := HR9.out.cell (show 2 < 5 by decide)
            have z3 := HR9.out.cell (show 3 < 5 by decide)
            have z4 := HR9.out.cell (show 4 < 5 by decide)
            have g0 := HR9.out.frozen 0
            have g1 := HR9.out.frozen 1
            have g2 := HR9.out.frozen 2
            have g3 := HR9.out.frozen 3
            have g4 := HR9.out.frozen 4
            simp only [o5, List.getD_cons_succ, List.getD_cons_zero] at z0 z1 z2 z3 z4
            go_wp2_with fail
            refine bodyPost_ret (v := .agg #[.int .i64 0, .string ⟨#[]⟩, .int .i64 0, .int .i64 (a : Int), .int .i64 3]) (by simp [results, Tryz.results45, go_sem, z0, z1, z2, z3, z4]; try rfl) rfl ?_
            refine ⟨?_, resO_below HB9.out (Nat.le_refl _)⟩
            rw [HX.out, if_pos HC.out]
            rfl
          have t2 : decide ((9007199254740991 : Int) < V) = false := decide_eq_false hVM
          have t3 : decide ((a : Int) < (a : Int) + 1) = true := decide_eq_true (by omega)
          by_cases hVz : V = 0
          · have t4 : (V == 0) = true := by simp [hVz]
            have HC : Hid (D = 0 ∨ 9007199254740991 < dvR s (a + 1) k ∨ (True ∧ dvR s (a + 1) k = 0)) := Lib.hid (Or.inr (Or.inr ⟨trivial, by omega⟩))
            clear hD0 hk hDk hkN hkD
            clear hVd hVz
            go_wp2_with fail
            refine (wrong_ref (a : Int) w0).mono ?_
            rintro e w9 ⟨rfl, hb9⟩
            have HR9 := Lib.hid (row_blk HR.out (hb9.block _ (show w.heap.size < w0.heap.size by rw [HS0.out]; omega)))
            have HB9 := Lib.hid (HB0.out.trans (hb9.mono (by rw [HS0.out]; omega)))
            clear hb9
            have z0 := HR9.out.cell (show 0 < 5 by decide)
            have z1 := HR9.out.cell (show 1 < 5 by decide)
            have z2 := HR9.out.cell (show 2 < 5 by decide)
            have z3 := HR9.out.cell (show 3 < 5 by decide)
            have z4 := HR9.out.cell (show 4 < 5 by decide)
            have g0 := HR9.out.frozen 0
            have g1 := HR9.out.frozen 1
            have g2 := HR9.out.frozen 2
            have g3 := HR9.out.frozen 3
            have g4 := HR9.out.frozen 4
            simp only [o5, List.getD_cons_succ, List.getD_cons_zero] at z0 z1 z2 z3 z4
            go_wp2_with fail
            refine bodyPost_ret (v := .agg #[.int .i64 0, .string ⟨#[]⟩, .int .i64 0, .int .i64 (a : Int), .int .i64 3]) (by simp [results, Tryz.results45, go_sem, z0, z1, z2, z3, z4]; try rfl) rfl ?_
            refine ⟨?_, resO_below HB9.out (Nat.le_refl _)⟩
            rw [HX.out, if_pos HC.out]
            rfl
          have t4 : (V == 0) = false := by simp [hVz]
          have HNC : Hid (¬ (D = 0 ∨ 9007199254740991 < dvR s (a + 1) k ∨ (True ∧ dvR s (a + 1) k = 0))) := Lib.hid (by rintro (h | h | h); exact hD0 h; omega; omega)
          clear hVd hVz hD0 hk hDk hkN hkD
          have HP : Hid (hdP (s.data.toList.drop k) = false) := Lib.hid (hdP_end hke)
          have z0 := HR.out.cell (show 0 < 5 by decide)
          have z1 := HR.out.cell (show 1 < 5 by decide)
          have z2 := HR.out.cell (show 2 < 5 by decide)
          have z3 := HR.out.cell (show 3 < 5 by decide)
          have z4 := HR.out.cell (show 4 < 5 by decide)
          have g0 := HR.out.frozen 0
          have g1 := HR.out.frozen 1
          have g2 := HR.out.frozen 2
          have g3 := HR.out.frozen 3
          have g4 := HR.out.frozen 4
          simp only [o5, List.getD_cons_succ, List.getD_cons_zero] at z0 z1 z2 z3 z4
          go_wp2_with fail
          refine bodyPost_ret (v := .agg #[.int .i64 3, .string (s.extract a k), .int .i64 a, .int .i64 k, .int .i64 0]) (by simp [results, Tryz.results45, go_sem, z0, z1, z2, z3, z4]; try rfl) rfl ?_
          refine ⟨?_, resO_below HB0.out (Nat.le_refl _)⟩
          rw [HX.out, if_neg HNC.out, if_neg (by rw [HP.out]; simp)]
          show _ = Ending.returned (.agg #[.int .i64 3, .string ⟨((s.data.toList.drop a).take (k - a)).toArray⟩, .int .i64 (a : Nat), .int .i64 ((a + (k - a) : Nat) : Int), .int .i64 0])
          rw [show a + (k - a) = k by omega, show (⟨((s.data.toList.drop a).take (k - a)).toArray⟩ : ByteArray) = s.extract a k by refine ByteArray.ext (Array.toList_inj.1 ?_); rw [List.toList_toArray, Lib.extract_data]]
        · have HC : Hid (D = 0 ∨ 9007199254740991 < dvR s (a + 1) k ∨ (True ∧ dvR s (a + 1) k = 0)) := Lib.hid (Or.inr (Or.inl (by rcases HN.out.2.2 with ⟨h, -⟩ | ⟨-, -, h⟩; cases h; omega)))
          clear hD0 hk hDk hkN hkD
          go_wp2_with fail
          refine (wrong_ref (a : Int) w0).mono ?_
          rintro e w9 ⟨rfl, hb9⟩
          have HR9 := Lib.hid (row_blk HR.out (hb9.block _ (show w.heap.size < w0.heap.size by rw [HS0.out]; omega)))
          have HB9 := Lib.hid (HB0.out.trans (hb9.mono (by rw [HS0.out]; omega)))
          clear hb9
          have z0 := HR9.out.cell (show 0 < 5 by decide)
          have z1 := HR9.out.cell (show 1 < 5 by decide)
          have z2 := HR9.out.cell (show 2 < 5 by decide)
          have z3 := HR9.out.cell (show 3 < 5 by decide)
          have z4 := HR9.out.cell (show 4 < 5 by decide)
          have g0 := HR9.out.frozen 0
          have g1 := HR9.out.frozen 1
          have g2 := HR9.out.frozen 2
          have g3 := HR9.out.frozen 3
          have g4 := HR9.out.frozen 4
          simp only [o5, List.getD_cons_succ, List.getD_cons_zero] at z0 z1 z2 z3 z4
          go_wp2_with fail
          refine bodyPost_ret (v := .agg #[.int .i64 0, .string ⟨#[]⟩, .int .i64 0, .int .i64 (a : Int), .int .i64 3]) (by simp [results, Tryz.results45, go_sem, z0, z1, z2, z3, z4]; try rfl) rfl ?_
          refine ⟨?_, resO_below HB9.out (Nat.le_refl _)⟩
          rw [HX.out, if_pos HC.out]
          rfl
      have hks : k < s.size := by omega
      have hgk := get_bang s k hks
      obtain ⟨c, hcc⟩ : ∃ c : Int, ((s[k]'hks).toNat : Int) = c := ⟨_, rfl⟩
      have HCC := Lib.hid hcc
      have HPT : Hid (hdP (s.data.toList.drop k) = ((isL c || isD c) || (c == 46))) := Lib.hid (by rw [hdP_at hks, ptB_int, hgk, hcc])
      have HDG : Hid (dgB (s.get! k) = isD c) := Lib.hid (by unfold dgB; rw [hgk, hcc])
      cases hdf : isD c
      · have KD : Hid (Calls Tryz.prog 44 #[.int .u8 (s[k]'hks).toNat] w0 fun e w' => e = .returned (.bool false) ∧ w0 = w') := Lib.hid (by rw [hcc]; exact (digit_ref c _).mono (by rintro e w' ⟨rfl, rfl⟩; exact ⟨ret_bool hdf, rfl⟩))
        have KD2 : Hid (Calls Tryz.prog 44 #[.int .u8 c] w0 fun e w' => e = .returned (.bool false) ∧ w0 = w') := Lib.hid ((digit_ref c _).mono (by rintro e w' ⟨rfl, rfl⟩; exact ⟨ret_bool hdf, rfl⟩))
        clear hcc hgk HDG
        by_cases hD0 : D = 0
        · have t1 : ((k : Int) == ((a : Int) + 1)) = true := by simp; omega
          have HC : Hid (D = 0 ∨ 9007199254740991 < dvR s (a + 1) k ∨ (True ∧ dvR s (a + 1) k = 0)) := Lib.hid (Or.inl hD0)
          clear hD0 hk hDk hkN hkD
          go_wp2_with fail
          refine KD.out.mono ?_
          rintro e w1 ⟨rfl, rfl⟩
          go_wp2_with fail
          refine (wrong_ref (a : Int) w0).mono ?_
          rintro e w9 ⟨rfl, hb9⟩
          have HR9 := Lib.hid (row_blk HR.out (hb9.block _ (show w.heap.size < w0.heap.size by rw [HS0.out]; omega)))
          have HB9 := Lib.hid (HB0.out.trans (hb9.mono (by rw [HS0.out]; omega)))
          clear hb9
          have z0 := HR9.out.cell (show 0 < 5 by decide)
          have z1 := HR9.out.cell (show 1 < 5 by decide)
          have z2 := HR9.out.cell (show 2 < 5 by decide)
          have z3 := HR9.out.cell (show 3 < 5 by decide)
          have z4 := HR9.out.cell (show 4 < 5 by decide)
          have g0 := HR9.out.frozen 0
          have g1 := HR9.out.frozen 1
          have g2 := HR9.out.frozen 2
          have g3 := HR9.out.frozen 3
          have g4 := HR9.out.frozen 4
          simp only [o5, List.getD_cons_succ, List.getD_cons_zero] at z0 z1 z2 z3 z4
          go_wp2_with fail
          refine bodyPost_ret (v := .agg #[.int .i64 0, .string ⟨#[]⟩, .int .i64 0, .int .i64 (a : Int), .int .i64 3]) (by simp [results, Tryz.results45, go_sem, z0, z1, z2, z3, z4]; try rfl) rfl ?_
          refine ⟨?_, resO_below HB9.out (Nat.le_refl _)⟩
          rw [HX.out, if_pos HC.out]
          rfl
        have t1 : ((k : Int) == ((a : Int) + 1)) = false := by simp; omega
        cases g
        · have hVd : V = (dvR s (a + 1) k : Int) := by
            rcases HN.out.2.2 with ⟨-, h⟩ | ⟨h, -⟩
            · exact h
            · cases h
          by_cases hVM : 9007199254740991 < V
          · have t2 : decide ((9007199254740991 : Int) < V) = true := decide_eq_true hVM
            have HC : Hid (D = 0 ∨ 9007199254740991 < dvR s (a + 1) k ∨ (True ∧ dvR s (a + 1) k = 0)) := Lib.hid (Or.inr (Or.inl (by omega)))
            clear hD0 hk hDk hkN hkD
            clear hVd
            go_wp2_with fail
            refine KD.out.mono ?_
            rintro e w1 ⟨rfl, rfl⟩
            go_wp2_with fail
            refine (wrong_ref (a : Int) w0).mono ?_
            rintro e w9 ⟨rfl, hb9⟩
            have HR9 := Lib.hid (row_blk HR.out (hb9.block _ (show w.heap.size < w0.heap.size by rw [HS0.out]; omega)))
            have HB9 := Lib.hid (HB0.out.trans (hb9.mono (by rw [HS0.out]; omega)))
            clear hb9
            have z0 := HR9.out.cell (show 0 < 5 by decide)
            have z1 := HR9.out.cell (show 1 < 5 by decide)
            have z2 := HR9.out.cell (show 2 < 5 by decide)
            have z3 := HR9.out.cell (show 3 < 5 by decide)
            have z4 := HR9.out.cell (show 4 < 5 by decide)
            have g0 := HR9.out.frozen 0
            have g1 := HR9.out.frozen 1
            have g2 := HR9.out.frozen 2
            have g3 := HR9.out.frozen 3
            have g4 := HR9.out.frozen 4
            simp only [o5, List.getD_cons_succ, List.getD_cons_zero] at z0 z1 z2 z3 z4
            go_wp2_with fail
            refine bodyPost_ret (v := .agg #[.int .i64 0, .string ⟨#[]⟩, .int .i64 0, .int .i64 (a : Int), .int .i64 3]) (by simp [results, Tryz.results45, go_sem, z0, z1, z2, z3, z4]; try rfl) rfl ?_
            refine ⟨?_, resO_below HB9.out (Nat.le_refl _)⟩
            rw [HX.out, if_pos HC.out]
            rfl
          have t2 : decide ((9007199254740991 : Int) < V) = false := decide_eq_false hVM
          have t3 : decide ((a : Int) < (a : Int) + 1) = true := decide_eq_true (by omega)
          by_cases hVz : V = 0
          · have t4 : (V == 0) = true := by simp [hVz]
            have HC : Hid (D = 0 ∨ 9007199254740991 < dvR s (a + 1) k ∨ (True ∧ dvR s (a + 1) k = 0)) := Lib.hid (Or.inr (Or.inr ⟨trivial, by omega⟩))
            clear hD0 hk hDk hkN hkD
            clear hVd hVz
            go_wp2_with fail
            refine KD.out.mono ?_
            rintro e w1 ⟨rfl, rfl⟩
            go_wp2_with fail
            refine (wrong_ref (a : Int) w0).mono ?_
            rintro e w9 ⟨rfl, hb9⟩
            have HR9 := Lib.hid (row_blk HR.out (hb9.block _ (show w.heap.size < w0.heap.size by rw [HS0.out]; omega)))
            have HB9 := Lib.hid (HB0.out.trans (hb9.mono (by rw [HS0.out]; omega)))
            clear hb9
            have z0 := HR9.out.cell (show 0 < 5 by decide)
            have z1 := HR9.out.cell (show 1 < 5 by decide)
            have z2 := HR9.out.cell (show 2 < 5 by decide)
            have z3 := HR9.out.cell (show 3 < 5 by decide)
            have z4 := HR9.out.cell (show 4 < 5 by decide)
            have g0 := HR9.out.frozen 0
            have g1 := HR9.out.frozen 1
            have g2 := HR9.out.frozen 2
            have g3 := HR9.out.frozen 3
            have g4 := HR9.out.frozen 4
            simp only [o5, List.getD_cons_succ, List.getD_cons_zero] at z0 z1 z2 z3 z4
            go_wp2_with fail
            refine bodyPost_ret (v := .agg #[.int .i64 0, .string ⟨#[]⟩, .int .i64 0, .int .i64 (a : Int), .int .i64 3]) (by simp [results, Tryz.results45, go_sem, z0, z1, z2, z3, z4]; try rfl) rfl ?_
            refine ⟨?_, resO_below HB9.out (Nat.le_refl _)⟩
            rw [HX.out, if_pos HC.out]
            rfl
          have t4 : (V == 0) = false := by simp [hVz]
          have HNC : Hid (¬ (D = 0 ∨ 9007199254740991 < dvR s (a + 1) k ∨ (True ∧ dvR s (a + 1) k = 0))) := Lib.hid (by rintro (h | h | h); exact hD0 h; omega; omega)
          clear hVd hVz hD0 hk hDk hkN hkD
          have KL := Lib.hid (letter_ref c w0)
          cases hl : isL c
          · rw [hl] at KL
            cases h46 : (c == 46)
            · have HP : Hid (hdP (s.data.toList.drop k) = false) := Lib.hid (by rw [HPT.out, hl, hdf, h46]; rfl)
              have h46' : (((s[k]'hks).toNat : Int) == 46) = false := by rw [HCC.out]; exact h46
              clear hl
              have z0 := HR.out.cell (show 0 < 5 by decide)
              have z1 := HR.out.cell (show 1 < 5 by decide)
              have z2 := HR.out.cell (show 2 < 5 by decide)
              have z3 := HR.out.cell (show 3 < 5 by decide)
              have z4 := HR.out.cell (show 4 < 5 by decide)
              have g0 := HR.out.frozen 0
              have g1 := HR.out.frozen 1
              have g2 := HR.out.frozen 2
              have g3 := HR.out.frozen 3
              have g4 := HR.out.frozen 4
              simp only [o5, List.getD_cons_succ, List.getD_cons_zero] at z0 z1 z2 z3 z4
              go_wp2_with fail
              refine KD.out.mono ?_
              rintro e w1 ⟨rfl, rfl⟩
              go_wp2_with fail
              rw [HCC.out]
              refine KL.out.mono ?_
              rintro e w2 ⟨rfl, rfl⟩
              go_wp2_with fail
              rw [HCC.out]
              refine KD2.out.mono ?_
              rintro e w2 ⟨rfl, rfl⟩
              go_wp2_with fail
              refine bodyPost_ret (v := .agg #[.int .i64 3, .string (s.extract a k), .int .i64 a, .int .i64 k, .int .i64 0]) (by simp [results, Tryz.results45, go_sem, z0, z1, z2, z3, z4]; try rfl) rfl ?_
              refine ⟨?_, resO_below HB0.out (Nat.le_refl _)⟩
              rw [HX.out, if_neg HNC.out, if_neg (by rw [HP.out]; simp)]
              show _ = Ending.returned (.agg #[.int .i64 3, .string ⟨((s.data.toList.drop a).take (k - a)).toArray⟩, .int .i64 (a : Nat), .int .i64 ((a + (k - a) : Nat) : Int), .int .i64 0])
              rw [show a + (k - a) = k by omega, show (⟨((s.data.toList.drop a).take (k - a)).toArray⟩ : ByteArray) = s.extract a k by refine ByteArray.ext (Array.toList_inj.1 ?_); rw [List.toList_toArray, Lib.extract_data]]
            · have HP : Hid (hdP (s.data.toList.drop k) = true) := Lib.hid (by rw [HPT.out, hl, hdf, h46]; rfl)
              have h46' : (((s[k]'hks).toNat : Int) == 46) = true := by rw [HCC.out]; exact h46
              clear hl
              go_wp2_with fail
              refine KD.out.mono ?_
              rintro e w1 ⟨rfl, rfl⟩
              go_wp2_with fail
              rw [HCC.out]
              refine KL.out.mono ?_
              rintro e w2 ⟨rfl, rfl⟩
              go_wp2_with fail
              rw [HCC.out]
              refine KD2.out.mono ?_
              rintro e w2 ⟨rfl, rfl⟩
              go_wp2_with fail
              refine (wrong_ref (k : Int) w0).mono ?_
              rintro e w9 ⟨rfl, hb9⟩
              have HR9 := Lib.hid (row_blk HR.out (hb9.block _ (show w.heap.size < w0.heap.size by rw [HS0.out]; omega)))
              have HB9 := Lib.hid (HB0.out.trans (hb9.mono (by rw [HS0.out]; omega)))
              clear hb9
              have z0 := HR9.out.cell (show 0 < 5 by decide)
              have z1 := HR9.out.cell (show 1 < 5 by decide)
              have z2 := HR9.out.cell (show 2 < 5 by decide)
              have z3 := HR9.out.cell (show 3 < 5 by decide)
              have z4 := HR9.out.cell (show 4 < 5 by decide)
              have g0 := HR9.out.frozen 0
              have g1 := HR9.out.frozen 1
              have g2 := HR9.out.frozen 2
              have g3 := HR9.out.frozen 3
              have g4 := HR9.out.frozen 4
              simp only [o5, List.getD_cons_succ, List.getD_cons_zero] at z0 z1 z2 z3 z4
              go_wp2_with fail
              refine bodyPost_ret (v := .agg #[.int .i64 0, .string ⟨#[]⟩, .int .i64 0, .int .i64 (k : Int), .int .i64 3]) (by simp [results, Tryz.results45, go_sem, z0, z1, z2, z3, z4]; try rfl) rfl ?_
              refine ⟨?_, resO_below HB9.out (Nat.le_refl _)⟩
              rw [HX.out, if_neg HNC.out, if_pos HP.out]
              show _ = Ending.returned (.agg #[.int .i64 0, .string ⟨#[]⟩, .int .i64 0, .int .i64 ((a + (k - a) : Nat) : Int), .int .i64 3])
              rw [show a + (k - a) = k by omega]

          · rw [hl] at KL
            have HP : Hid (hdP (s.data.toList.drop k) = true) := Lib.hid (by rw [HPT.out, hl]; rfl)
            clear hl
            go_wp2_with fail
            refine KD.out.mono ?_
            rintro e w1 ⟨rfl, rfl⟩
            go_wp2_with fail
            rw [HCC.out]
            refine KL.out.mono ?_
            rintro e w2 ⟨rfl, rfl⟩
            go_wp2_with fail
            refine (wrong_ref (k : Int) w0).mono ?_
            rintro e w9 ⟨rfl, hb9⟩
            have HR9 := Lib.hid (row_blk HR.out (hb9.block _ (show w.heap.size < w0.heap.size by rw [HS0.out]; omega)))
            have HB9 := Lib.hid (HB0.out.trans (hb9.mono (by rw [HS0.out]; omega)))
            clear hb9
            have z0 := HR9.out.cell (show 0 < 5 by decide)
            have z1 := HR9.out.cell (show 1 < 5 by decide)
            have z2 := HR9.out.cell (show 2 < 5 by decide)
            have z3 := HR9.out.cell (show 3 < 5 by decide)
            have z4 := HR9.out.cell (show 4 < 5 by decide)
            have g0 := HR9.out.frozen 0
            have g1 := HR9.out.frozen 1
            have g2 := HR9.out.frozen 2
            have g3 := HR9.out.frozen 3
            have g4 := HR9.out.frozen 4
            simp only [o5, List.getD_cons_succ, List.getD_cons_zero] at z0 z1 z2 z3 z4
            go_wp2_with fail
            refine bodyPost_ret (v := .agg #[.int .i64 0, .string ⟨#[]⟩, .int .i64 0, .int .i64 (k : Int), .int .i64 3]) (by simp [results, Tryz.results45, go_sem, z0, z1, z2, z3, z4]; try rfl) rfl ?_
            refine ⟨?_, resO_below HB9.out (Nat.le_refl _)⟩
            rw [HX.out, if_neg HNC.out, if_pos HP.out]
            show _ = Ending.returned (.agg #[.int .i64 0, .string ⟨#[]⟩, .int .i64 0, .int .i64 ((a + (k - a) : Nat) : Int), .int .i64 3])
            rw [show a + (k - a) = k by omega]

        · have HC : Hid (D = 0 ∨ 9007199254740991 < dvR s (a + 1) k ∨ (True ∧ dvR s (a + 1) k = 0)) := Lib.hid (Or.inr (Or.inl (by rcases HN.out.2.2 with ⟨h, -⟩ | ⟨-, -, h⟩; cases h; omega)))
          clear hD0 hk hDk hkN hkD
          go_wp2_with fail
          refine KD.out.mono ?_
          rintro e w1 ⟨rfl, rfl⟩
          go_wp2_with fail
          refine (wrong_ref (a : Int) w0).mono ?_
          rintro e w9 ⟨rfl, hb9⟩
          have HR9 := Lib.hid (row_blk HR.out (hb9.block _ (show w.heap.size < w0.heap.size by rw [HS0.out]; omega)))
          have HB9 := Lib.hid (HB0.out.trans (hb9.mono (by rw [HS0.out]; omega)))
          clear hb9
          have z0 := HR9.out.cell (show 0 < 5 by decide)
          have z1 := HR9.out.cell (show 1 < 5 by decide)
          have z2 := HR9.out.cell (show 2 < 5 by decide)
          have z3 := HR9.out.cell (show 3 < 5 by decide)
          have z4 := HR9.out.cell (show 4 < 5 by decide)
          have g0 := HR9.out.frozen 0
          have g1 := HR9.out.frozen 1
          have g2 := HR9.out.frozen 2
          have g3 := HR9.out.frozen 3
          have g4 := HR9.out.frozen 4
          simp only [o5, List.getD_cons_succ, List.getD_cons_zero] at z0 z1 z2 z3 z4
          go_wp2_with fail
          refine bodyPost_ret (v := .agg #[.int .i64 0, .string ⟨#[]⟩, .int .i64 0, .int .i64 (a : Int), .int .i64 3]) (by simp [results, Tryz.results45, go_sem, z0, z1, z2, z3, z4]; try rfl) rfl ?_
          refine ⟨?_, resO_below HB9.out (Nat.le_refl _)⟩
          rw [HX.out, if_pos HC.out]
          rfl
      · obtain ⟨h1, h48⟩ : k = (a + 1) + 1 ∧ (s.get! (a + 1)).toNat = 48 := by
          rcases dig_out (s := s) (F := (a + 1)) (k := k) (by rw [HD2.out]; exact hk.symm) hks with h | h
          · rw [HDG.out, hdf] at h; cases h
          · exact h
        have hFs : (a + 1) < s.size := by omega
        have e1 : ((k : Int) == ((a : Int) + 1) + 1) = true := by rw [h1]; simp
        have e48 : (((s[(a + 1)]'hFs).toNat : Int) == 48) = true := by rw [← get_bang s (a + 1) hFs, h48]; rfl
        have KD : Hid (Calls Tryz.prog 44 #[.int .u8 (s[k]'hks).toNat] w0 fun e w' => e = .returned (.bool true) ∧ w0 = w') := Lib.hid (by rw [hcc]; exact (digit_ref c _).mono (by rintro e w' ⟨rfl, rfl⟩; exact ⟨ret_bool hdf, rfl⟩))
        have KD2 : Hid (Calls Tryz.prog 44 #[.int .u8 c] w0 fun e w' => e = .returned (.bool true) ∧ w0 = w') := Lib.hid ((digit_ref c _).mono (by rintro e w' ⟨rfl, rfl⟩; exact ⟨ret_bool hdf, rfl⟩))
        clear hcc hgk HDG h48 h1
        by_cases hD0 : D = 0
        · have t1 : ((k : Int) == ((a : Int) + 1)) = true := by simp; omega
          have HC : Hid (D = 0 ∨ 9007199254740991 < dvR s (a + 1) k ∨ (True ∧ dvR s (a + 1) k = 0)) := Lib.hid (Or.inl hD0)
          clear hD0 hk hDk hkN hkD
          go_wp2_with fail
          refine KD.out.mono ?_
          rintro e w1 ⟨rfl, rfl⟩
          go_wp2_with fail
          refine (wrong_ref (a : Int) w0).mono ?_
          rintro e w9 ⟨rfl, hb9⟩
          have HR9 := Lib.hid (row_blk HR.out (hb9.block _ (show w.heap.size < w0.heap.size by rw [HS0.out]; omega)))
          have HB9 := Lib.hid (HB0.out.trans (hb9.mono (by rw [HS0.out]; omega)))
          clear hb9
          have z0 := HR9.out.cell (show 0 < 5 by decide)
          have z1 := HR9.out.cell (show 1 < 5 by decide)
          have z2 := HR9.out.cell (show 2 < 5 by decide)
          have z3 := HR9.out.cell (show 3 < 5 by decide)
          have z4 := HR9.out.cell (show 4 < 5 by decide)
          have g0 := HR9.out.frozen 0
          have g1 := HR9.out.frozen 1
          have g2 := HR9.out.frozen 2
          have g3 := HR9.out.frozen 3
          have g4 := HR9.out.frozen 4
          simp only [o5, List.getD_cons_succ, List.getD_cons_zero] at z0 z1 z2 z3 z4
          go_wp2_with fail
          refine bodyPost_ret (v := .agg #[.int .i64 0, .string ⟨#[]⟩, .int .i64 0, .int .i64 (a : Int), .int .i64 3]) (by simp [results, Tryz.results45, go_sem, z0, z1, z2, z3, z4]; try rfl) rfl ?_
          refine ⟨?_, resO_below HB9.out (Nat.le_refl _)⟩
          rw [HX.out, if_pos HC.out]
          rfl
        have t1 : ((k : Int) == ((a : Int) + 1)) = false := by simp; omega
        cases g
        · have hVd : V = (dvR s (a + 1) k : Int) := by
            rcases HN.out.2.2 with ⟨-, h⟩ | ⟨h, -⟩
            · exact h
            · cases h
          by_cases hVM : 9007199254740991 < V
          · have t2 : decide ((9007199254740991 : Int) < V) = true := decide_eq_true hVM
            have HC : Hid (D = 0 ∨ 9007199254740991 < dvR s (a + 1) k ∨ (True ∧ dvR s (a + 1) k = 0)) := Lib.hid (Or.inr (Or.inl (by omega)))
            clear hD0 hk hDk hkN hkD
            clear hVd
            go_wp2_with fail
            refine KD.out.mono ?_
            rintro e w1 ⟨rfl, rfl⟩
            go_wp2_with fail
            refine (wrong_ref (a : Int) w0).mono ?_
            rintro e w9 ⟨rfl, hb9⟩
            have HR9 := Lib.hid (row_blk HR.out (hb9.block _ (show w.heap.size < w0.heap.size by rw [HS0.out]; omega)))
            have HB9 := Lib.hid (HB0.out.trans (hb9.mono (by rw [HS0.out]; omega)))
            clear hb9
            have z0 := HR9.out.cell (show 0 < 5 by decide)
            have z1 := HR9.out.cell (show 1 < 5 by decide)
            have z2 := HR9.out.cell (show 2 < 5 by decide)
            have z3 := HR9.out.cell (show 3 < 5 by decide)
            have z4 := HR9.out.cell (show 4 < 5 by decide)
            have g0 := HR9.out.frozen 0
            have g1 := HR9.out.frozen 1
            have g2 := HR9.out.frozen 2
            have g3 := HR9.out.frozen 3
            have g4 := HR9.out.frozen 4
            simp only [o5, List.getD_cons_succ, List.getD_cons_zero] at z0 z1 z2 z3 z4
            go_wp2_with fail
            refine bodyPost_ret (v := .agg #[.int .i64 0, .string ⟨#[]⟩, .int .i64 0, .int .i64 (a : Int), .int .i64 3]) (by simp [results, Tryz.results45, go_sem, z0, z1, z2, z3, z4]; try rfl) rfl ?_
            refine ⟨?_, resO_below HB9.out (Nat.le_refl _)⟩
            rw [HX.out, if_pos HC.out]
            rfl
          have t2 : decide ((9007199254740991 : Int) < V) = false := decide_eq_false hVM
          have t3 : decide ((a : Int) < (a : Int) + 1) = true := decide_eq_true (by omega)
          by_cases hVz : V = 0
          · have t4 : (V == 0) = true := by simp [hVz]
            have HC : Hid (D = 0 ∨ 9007199254740991 < dvR s (a + 1) k ∨ (True ∧ dvR s (a + 1) k = 0)) := Lib.hid (Or.inr (Or.inr ⟨trivial, by omega⟩))
            clear hD0 hk hDk hkN hkD
            clear hVd hVz
            go_wp2_with fail
            refine KD.out.mono ?_
            rintro e w1 ⟨rfl, rfl⟩
            go_wp2_with fail
            refine (wrong_ref (a : Int) w0).mono ?_
            rintro e w9 ⟨rfl, hb9⟩
            have HR9 := Lib.hid (row_blk HR.out (hb9.block _ (show w.heap.size < w0.heap.size by rw [HS0.out]; omega)))
            have HB9 := Lib.hid (HB0.out.trans (hb9.mono (by rw [HS0.out]; omega)))
            clear hb9
            have z0 := HR9.out.cell (show 0 < 5 by decide)
            have z1 := HR9.out.cell (show 1 < 5 by decide)
            have z2 := HR9.out.cell (show 2 < 5 by decide)
            have z3 := HR9.out.cell (show 3 < 5 by decide)
            have z4 := HR9.out.cell (show 4 < 5 by decide)
            have g0 := HR9.out.frozen 0
            have g1 := HR9.out.frozen 1
            have g2 := HR9.out.frozen 2
            have g3 := HR9.out.frozen 3
            have g4 := HR9.out.frozen 4
            simp only [o5, List.getD_cons_succ, List.getD_cons_zero] at z0 z1 z2 z3 z4
            go_wp2_with fail
            refine bodyPost_ret (v := .agg #[.int .i64 0, .string ⟨#[]⟩, .int .i64 0, .int .i64 (a : Int), .int .i64 3]) (by simp [results, Tryz.results45, go_sem, z0, z1, z2, z3, z4]; try rfl) rfl ?_
            refine ⟨?_, resO_below HB9.out (Nat.le_refl _)⟩
            rw [HX.out, if_pos HC.out]
            rfl
          have t4 : (V == 0) = false := by simp [hVz]
          have HNC : Hid (¬ (D = 0 ∨ 9007199254740991 < dvR s (a + 1) k ∨ (True ∧ dvR s (a + 1) k = 0))) := Lib.hid (by rintro (h | h | h); exact hD0 h; omega; omega)
          clear hVd hVz hD0 hk hDk hkN hkD
          have HP : Hid (hdP (s.data.toList.drop k) = true) := Lib.hid (by rw [HPT.out, hdf]; simp)
          have hl : isL c = false := by unfold isL; unfold isD at hdf; simp at hdf; rw [Bool.eq_false_iff]; simp; omega
          have KL := Lib.hid (letter_ref c w0)
          rw [hl] at KL
          clear hl
          go_wp2_with fail
          refine KD.out.mono ?_
          rintro e w1 ⟨rfl, rfl⟩
          go_wp2_with fail
          rw [HCC.out]
          refine KL.out.mono ?_
          rintro e w2 ⟨rfl, rfl⟩
          go_wp2_with fail
          rw [HCC.out]
          refine KD2.out.mono ?_
          rintro e w2 ⟨rfl, rfl⟩
          go_wp2_with fail
          refine (wrong_ref (k : Int) w0).mono ?_
          rintro e w9 ⟨rfl, hb9⟩
          have HR9 := Lib.hid (row_blk HR.out (hb9.block _ (show w.heap.size < w0.heap.size by rw [HS0.out]; omega)))
          have HB9 := Lib.hid (HB0.out.trans (hb9.mono (by rw [HS0.out]; omega)))
          clear hb9
          have z0 := HR9.out.cell (show 0 < 5 by decide)
          have z1 := HR9.out.cell (show 1 < 5 by decide)
          have z2 := HR9.out.cell (show 2 < 5 by decide)
          have z3 := HR9.out.cell (show 3 < 5 by decide)
          have z4 := HR9.out.cell (show 4 < 5 by decide)
          have g0 := HR9.out.frozen 0
          have g1 := HR9.out.frozen 1
          have g2 := HR9.out.frozen 2
          have g3 := HR9.out.frozen 3
          have g4 := HR9.out.frozen 4
          simp only [o5, List.getD_cons_succ, List.getD_cons_zero] at z0 z1 z2 z3 z4
          go_wp2_with fail
          refine bodyPost_ret (v := .agg #[.int .i64 0, .string ⟨#[]⟩, .int .i64 0, .int .i64 (k : Int), .int .i64 3]) (by simp [results, Tryz.results45, go_sem, z0, z1, z2, z3, z4]; try rfl) rfl ?_
          refine ⟨?_, resO_below HB9.out (Nat.le_refl _)⟩
          rw [HX.out, if_neg HNC.out, if_pos HP.out]
          show _ = Ending.returned (.agg #[.int .i64 0, .string ⟨#[]⟩, .int .i64 0, .int .i64 ((a + (k - a) : Nat) : Int), .int .i64 3])
          rw [show a + (k - a) = k by omega]

        · have HC : Hid (D = 0 ∨ 9007199254740991 < dvR s (a + 1) k ∨ (True ∧ dvR s (a + 1) k = 0)) := Lib.hid (Or.inr (Or.inl (by rcases HN.out.2.2 with ⟨h, -⟩ | ⟨-, -, h⟩; cases h; omega)))
          clear hD0 hk hDk hkN hkD
          go_wp2_with fail
          refine KD.out.mono ?_
          rintro e w1 ⟨rfl, rfl⟩
          go_wp2_with fail
          refine (wrong_ref (a : Int) w0).mono ?_
          rintro e w9 ⟨rfl, hb9⟩
          have HR9 := Lib.hid (row_blk HR.out (hb9.block _ (show w.heap.size < w0.heap.size by rw [HS0.out]; omega)))
          have HB9 := Lib.hid (HB0.out.trans (hb9.mono (by rw [HS0.out]; omega)))
          clear hb9
          have z0 := HR9.out.cell (show 0 < 5 by decide)
          have z1 := HR9.out.cell (show 1 < 5 by decide)
          have z2 := HR9.out.cell (show 2 < 5 by decide)
          have z3 := HR9.out.cell (show 3 < 5 by decide)
          have z4 := HR9.out.cell (show 4 < 5 by decide)
          have g0 := HR9.out.frozen 0
          have g1 := HR9.out.frozen 1
          have g2 := HR9.out.frozen 2
          have g3 := HR9.out.frozen 3
          have g4 := HR9.out.frozen 4
          simp only [o5, List.getD_cons_succ, List.getD_cons_zero] at z0 z1 z2 z3 z4
          go_wp2_with fail
          refine bodyPost_ret (v := .agg #[.int .i64 0, .string ⟨#[]⟩, .int .i64 0, .int .i64 (a : Int), .int .i64 3]) (by simp [results, Tryz.results45, go_sem, z0, z1, z2, z3, z4]; try rfl) rfl ?_
          refine ⟨?_, resO_below HB9.out (Nat.le_refl _)⟩
          rw [HX.out, if_pos HC.out]
          rfl
end Go.Proofs.YtejniiehfangkaaGreatDoor

set_option linter.unusedVariables false
set_option linter.unusedSimpArgs false
namespace Go.Proofs.YtejniiehfangkaaGreatDoor.Bk
open Go.RowKit
theorem rel_put0 {w W w3 : World} {x : ByteArray} {v v' : Value} {ls : List ByteArray} {o : Obj} (hown : W.ownsRow w.heap.size 9 1 v ls.length (ls.map Value.string)) (hb : Below w.heap.size w W) (hsz : w.heap.size ≤ W.heap.size)
    (hown' : w3.ownsRow w.heap.size 9 1 v' (ls.length + 1) (ls.map Value.string ++ [.string x])) (hg : (W.alloc o).grownBy w3 v.ownBlock) :
    w3.ownsRow w.heap.size 9 1 v' (ls ++ [x]).length ((ls ++ [x]).map Value.string) ∧ Below w.heap.size w w3 ∧ w.heap.size ≤ w3.heap.size := by
  have hne : ∀ j, v.ownBlock = some j → w.heap.size ≤ j := fun j hj => (hown.lt j hj).1
  have h3 := (hb.alloc hsz o).grown hg (by simp; omega) hne
  exact ⟨by simpa using hown', h3, h3.size⟩
set_option maxHeartbeats 1000000 in
set_option maxRecDepth 100000 in
theorem lines_ref (s : ByteArray) (hs : s.size ≤ 4294967296) (w : World) : Calls Tryz.prog 84 #[.string s] w fun e w' => ∃ v, e = .returned v ∧ w'.ownsRow w.heap.size 9 1 v (linesFrom s 0 0).length ((linesFrom s 0 0).map Value.string) ∧ Below w.heap.size w w' := by
  obtain ⟨i0, hi, hz0, hz1, hz2⟩ := info_parts info9
  go_enter Tryz.func84, Tryz.ntmps84
  go_wp2
  go_loopw [3, 4, 5] (fun v f i wr => ∃ (k fr : Nat) (ls : List ByteArray), f = .int .i64 fr ∧ i = .int .i64 k ∧ fr ≤ k ∧ k ≤ s.size ∧ ls.length ≤ k ∧ wr.ownsRow w.heap.size 9 1 v ls.length (ls.map Value.string) ∧ Below w.heap.size w wr ∧ w.heap.size ≤ wr.heap.size ∧
      (k < s.size → (s.get! k).toNat = 10 → k = 0 ∨ (s.get! (k - 1)).toNat ≠ 13) ∧ ls ++ linesFrom s fr k = linesFrom s 0 0) (fun _ _ i _ => s.size - (intOf i).toNat)
  case atStart => exact ⟨0, 0, [], rfl, rfl, by omega, by omega, by simp, World.ownsRow_nil _ _ _ _, Below.refl _ _, Nat.le_refl _, fun _ _ => .inl rfl, rfl⟩
  case round =>
    obtain ⟨k, fr, ls, rfl, rfl, hfp, hps, hll, hown, hbel, hsz, hprev, hc⟩ := hrel
    have HC := Lib.hid hc
    have HP := Lib.hid hprev
    clear hc hprev
    by_cases hp : k < s.size
    · have hg : (s.get! k).toNat = s[k].toNat := by rw [get_bang s k hp]
      have HG := Lib.hid hg
      clear hg
      by_cases h13 : s[k].toNat = 13
      · have hz1' : ((s[k].toNat : Int) != 10) = true := by rw [h13]; rfl
        have hz2' : ((s[k].toNat : Int) != 13) = false := by rw [h13]; rfl
        have hz3' : ((s[k].toNat : Int) == 13) = true := by rw [h13]; rfl
        have HR := Lib.hid (lf_cut s fr k hp (.inl (HG.out.trans h13)))
        have HG13 := Lib.hid (HG.out.trans h13)
        clear h13
        by_cases hn : k + 1 < s.size
        · have hlt : decide ((k : Int) < (s.size : Int) - 1) = true := by simp; omega
          have hg1 : (s.get! (k + 1)).toNat = s[k + 1].toNat := by rw [get_bang s (k + 1) hn]
          have HG1 := Lib.hid hg1
          clear hg1
          by_cases h10 : s[k + 1].toNat = 10
          · have hy : ((s[k + 1].toNat : Int) == 10) = true := by rw [h10]; rfl
            have HS := Lib.hid (lf_skip s (k + 1) (k + 1) hn (HG1.out.trans h10) (by omega) (by simpa using HG13.out))
            have HG10 := Lib.hid (HG1.out.trans h10)
            clear h10
            go_wp2_with (first | (at_builtin; refine wpList_append_own _ rfl _ _ 62 rfl w.heap.size 9 i0 (.string ⟨#[]⟩) 1 16 Tryz.underlying62 hi hz0 hz1 hz2 rfl (by decide) _ _ _ rfl (hown.alloc _) ⟨wr.heap.size, 0, none⟩ 1 1 [.string (s.extract fr k)] rfl rfl (cell_one_new _ _ _) (by simp [Value.oneCell']) (by unfold maxLen; omega) (by omega) (by simp; omega) ?_; intro v' w3 hown3 hgrow _))
            obtain ⟨r2, r3, r4⟩ := rel_put0 hown hbel hsz hown3 hgrow
            exact ⟨⟨k + 2, k + 2, ls ++ [s.extract fr k], by go_num, by go_num, by omega, by omega, by simp only [List.length_append, List.length_singleton]; omega, r2, r3, r4, fun _ _ => .inr (by rw [show k + 2 - 1 = k + 1 by omega, HG10.out]; decide), by rw [← HC.out, HR.out, HS.out]; simp⟩, by simp [intOf]; omega⟩
          · have hy : ((s[k + 1].toNat : Int) == 10) = false := by simp; omega
            have HN := Lib.hid (fun e : (s.get! (k + 1)).toNat = 10 => h10 (HG1.out.symm.trans e))
            clear h10
            go_wp2_with (first | (at_builtin; refine wpList_append_own _ rfl _ _ 62 rfl w.heap.size 9 i0 (.string ⟨#[]⟩) 1 16 Tryz.underlying62 hi hz0 hz1 hz2 rfl (by decide) _ _ _ rfl (hown.alloc _) ⟨wr.heap.size, 0, none⟩ 1 1 [.string (s.extract fr k)] rfl rfl (cell_one_new _ _ _) (by simp [Value.oneCell']) (by unfold maxLen; omega) (by omega) (by simp; omega) ?_; intro v' w3 hown3 hgrow _))
            obtain ⟨r2, r3, r4⟩ := rel_put0 hown hbel hsz hown3 hgrow
            exact ⟨⟨k + 1, k + 1, ls ++ [s.extract fr k], by go_num, by go_num, by omega, by omega, by simp only [List.length_append, List.length_singleton]; omega, r2, r3, r4, fun _ e => (HN.out e).elim, by rw [← HC.out, HR.out]; simp⟩, by simp [intOf]; omega⟩
        · have hlt : decide ((k : Int) < (s.size : Int) - 1) = false := by simp; omega
          go_wp2_with (first | (at_builtin; refine wpList_append_own _ rfl _ _ 62 rfl w.heap.size 9 i0 (.string ⟨#[]⟩) 1 16 Tryz.underlying62 hi hz0 hz1 hz2 rfl (by decide) _ _ _ rfl (hown.alloc _) ⟨wr.heap.size, 0, none⟩ 1 1 [.string (s.extract fr k)] rfl rfl (cell_one_new _ _ _) (by simp [Value.oneCell']) (by unfold maxLen; omega) (by omega) (by simp; omega) ?_; intro v' w3 hown3 hgrow _))
          obtain ⟨r2, r3, r4⟩ := rel_put0 hown hbel hsz hown3 hgrow
          exact ⟨⟨k + 1, k + 1, ls ++ [s.extract fr k], by go_num, by go_num, by omega, by omega, by simp only [List.length_append, List.length_singleton]; omega, r2, r3, r4, fun e => absurd e hn, by rw [← HC.out, HR.out]; simp⟩, by simp [intOf]; omega⟩
      · by_cases h10 : s[k].toNat = 10
        · have hz1' : ((s[k].toNat : Int) != 10) = false := by rw [h10]; rfl
          have hz3' : ((s[k].toNat : Int) == 13) = false := by rw [h10]; rfl
          have HR := Lib.hid (lf_cut s fr k hp (.inr ⟨HG.out.trans h10, by have := HP.out hp (HG.out.trans h10); exact this⟩))
          have HG10 := Lib.hid (HG.out.trans h10)
          clear h10 h13
          go_wp2_with (first | (at_builtin; refine wpList_append_own _ rfl _ _ 62 rfl w.heap.size 9 i0 (.string ⟨#[]⟩) 1 16 Tryz.underlying62 hi hz0 hz1 hz2 rfl (by decide) _ _ _ rfl (hown.alloc _) ⟨wr.heap.size, 0, none⟩ 1 1 [.string (s.extract fr k)] rfl rfl (cell_one_new _ _ _) (by simp [Value.oneCell']) (by unfold maxLen; omega) (by omega) (by simp; omega) ?_; intro v' w3 hown3 hgrow _))
          obtain ⟨r2, r3, r4⟩ := rel_put0 hown hbel hsz hown3 hgrow
          exact ⟨⟨k + 1, k + 1, ls ++ [s.extract fr k], by go_num, by go_num, by omega, by omega, by simp only [List.length_append, List.length_singleton]; omega, r2, r3, r4, fun _ _ => .inr (by rw [Nat.add_sub_cancel, HG10.out]; decide), by rw [← HC.out, HR.out]; simp⟩, by simp [intOf]; omega⟩
        · have hz1' : ((s[k].toNat : Int) != 10) = true := by rw [bne_iff_ne]; omega
          have hz2' : ((s[k].toNat : Int) != 13) = true := by rw [bne_iff_ne]; omega
          have HR := Lib.hid (lf_one s fr k hp (by rw [HG.out]; exact h13) (by rw [HG.out]; exact h10))
          have HN := Lib.hid (fun e : (s.get! k).toNat = 13 => h13 (HG.out.symm.trans e))
          clear h10 h13
          go_wp2
          exact ⟨⟨k + 1, fr, ls, rfl, by go_num, by omega, by omega, by omega, hown, hbel, hsz, fun _ _ => .inr (by rw [Nat.add_sub_cancel]; exact HN.out), by rw [← HC.out, HR.out]⟩, by simp [intOf]; omega⟩
    · have HR := Lib.hid (lf_end s fr k hp)
      go_wp2_with (first | (at_builtin; refine wpList_append_own _ rfl _ _ 62 rfl w.heap.size 9 i0 (.string ⟨#[]⟩) 1 16 Tryz.underlying62 hi hz0 hz1 hz2 rfl (by decide) _ _ _ rfl (hown.alloc _) ⟨wr.heap.size, 0, none⟩ 1 1 [.string (s.extract fr s.size)] rfl rfl (cell_one_new _ _ _) (by simp [Value.oneCell']) (by unfold maxLen; omega) (by omega) (by simp; omega) ?_; intro v' w3 hown3 hgrow _))
      go_ret
      obtain ⟨r2, r3, r4⟩ := rel_put0 hown hbel hsz hown3 hgrow
      refine ⟨_, rfl, ?_, r3⟩
      rw [← HC.out, HR.out]
      exact r2
end Go.Proofs.YtejniiehfangkaaGreatDoor.Bk

/- The document's own Value. -/
set_option linter.unusedVariables false
set_option linter.unusedSimpArgs false
namespace Go.Proofs.YtejniiehfangkaaGreatDoor.Bk
open Go.RowKit
theorem join_snoc (xs : List (List UInt8)) (y : List UInt8) : Lib.join (xs ++ [y]) [10] = if xs.length = 0 then y else Lib.join xs [10] ++ ([10] ++ y) := by
  cases xs with
  | nil => rw [List.nil_append, Lib.join_one]; rfl
  | cons x r =>
    rw [if_neg (by simp), List.cons_append, Lib.join_cons, Lib.join_cons]
    unfold Lib.joinTail; simp
theorem cell_of {w : World} {g : Nat} {L : List ByteArray} (h : Row w g L) (k : Nat) (x : ByteArray) (hx : L[k]? = some x) : w.cell? ⟨g, k, none⟩ = some (.string x) := h.2 k x hx
/-- Where the lines that aren't blank begin, as the document has it. -/
def frR (n : Nat) (p : Nat × Nat) : Nat := if p.2 = 0 then n else p.1
set_option maxHeartbeats 2000000 in
set_option maxRecDepth 100000 in
theorem value_ref (s : ByteArray) (hs : s.size ≤ 1000000) (w : World) :
    Calls Tryz.prog 66 #[.string s] w fun e w' => e = .returned (.string ⟨(valM s.data.toList).toArray⟩) ∧ Below w.heap.size w w' := by
  obtain ⟨i0, hi, hz0, hz1, hz2⟩ := info_parts info9
  have hrw := turned_any s ⟨#[92, 34, 34, 34]⟩ ⟨#[34, 34, 34]⟩ (by omega) (by decide) (by decide) (by decide) w
  have hlen := turn_len escL rowL s.data.toList (by decide) (by decide)
  rw [← Lib.size_eq] at hlen
  have hval : (valM s.data.toList) = valL (turn escL rowL s.data.toList) := rfl
  rw [hval]
  change Calls Tryz.prog 85 _ w (fun e w' => e = .returned (.string ⟨(turn escL rowL s.data.toList).toArray⟩) ∧ w = w') at hrw
  obtain ⟨T, hT, hTd⟩ : ∃ T : ByteArray, T = ⟨(turn escL rowL s.data.toList).toArray⟩ ∧ T.data.toList = turn escL rowL s.data.toList := ⟨_, rfl, by simp⟩
  rw [← hT] at hrw
  rw [← hTd] at hlen ⊢
  rw [← Lib.size_eq] at hlen
  have HRW := Lib.hid hrw
  clear hrw hT hTd hval
  have hl := lines_len T
  have hls := line_size T
  have hb := lines_bts T
  have hlb := linesB_lens T.data.toList false []
  rw [List.length_nil, ← Lib.size_eq] at hlb
  change Lib.lens (lnB T.data.toList) + (lnB T.data.toList).length ≤ _ at hlb
  rw [← hb] at hlb
  have hli := fun w => lines_ref T (by omega) w
  have hv : valL T.data.toList = Lib.join (edg (cutL (ind (bts (linesFrom T 0 0))) (bts (linesFrom T 0 0)))) [10] := by rw [hb]; rfl
  rw [hv]
  clear hv hb
  generalize hL : linesFrom T 0 0 = L at *
  clear hL
  have HLI := Lib.hid hli
  have HLS := Lib.hid (fun x hx => Nat.le_trans (hls x hx) (show T.size ≤ 4000000 by omega))
  clear hli hls
  obtain ⟨n, hn⟩ : ∃ n, n = L.length := ⟨_, rfl⟩
  have hn1 : 1 ≤ n := by omega
  have hn2 : n ≤ 4000001 := by omega
  obtain ⟨d, hd⟩ : ∃ d, d = ind (bts L) := ⟨_, rfl⟩
  rw [← hd]
  have hma := mixA_all d L
  have hms := mixA_size d L n 4000000 HLS.out
  have hml := mixA_len d L n
  have hat := mixA_at d L n
  rw [← hn] at hma
  have hcl := cut_lens d (bts L)
  rw [← hma] at hcl ⊢
  have HN := Lib.hid hn
  have HD := Lib.hid hd
  rw [← hn] at hml
  have hJ : Lib.lens (bts (mixA d L n)) + n ≤ 4000001 := by rw [bts_len] at hlb; omega
  have HJ := Lib.hid hJ
  clear hl hn hd hlb hma hcl hJ
  generalize hM : mixA d L n = M at *
  clear hM
  have HMS := Lib.hid hms
  have HML := Lib.hid hml
  have HAT := Lib.hid hat
  clear hms hml hat
  go_enter Tryz.func66, Tryz.ntmps66
  go_wp2_with (first | (go_at_call 85; refine HRW.out.mono ?_; rintro e w1 ⟨rfl, rfl⟩) | (go_at_call 84; refine (HLI.out _).mono ?_; rintro e w2 ⟨v, rfl, hown, hb2⟩))
  rw [← HN.out] at hown
  obtain ⟨g, cap, hv⟩ := Joins.ownsRow_form hown hn1
  subst hv
  have hrow := own_row hown HN.out.symm
  obtain ⟨hc1, hc2⟩ := own_cap hown
  have hc3 := hc2
  unfold maxLen at hc3
  have hrd := hrow.rd
  rw [← HN.out] at hrd
  go_wp2_with (go_at_call 86; refine (indent_ref _ n cap L _ (by omega) hrd (fun x hx => by have := HLS.out x hx; omega)).mono ?_; rintro e w3 ⟨rfl, hb3⟩)
  rw [← HD.out]
  have hrow3 := hrow.below hb3 (Nat.le_refl _)
  have hB3 := Below_next hb2 hb3
  clear hown hrow hrd hb2 hb3
  go_loopw [5, 6, 7, 8] (fun f t v i wr => ∃ k : Nat, k ≤ n ∧ i = .int .i64 k ∧ f = .int .i64 (frR n (ft ((bts M).take k)) : Nat) ∧ t = .int .i64 ((ft ((bts M).take k)).2 : Nat) ∧ wr.ownsRow w3.heap.size 9 1 v (M.take k).length ((M.take k).map Value.string) ∧ Below w3.heap.size w3 wr) (fun _ _ _ i _ => n - (intOf i).toNat)
  case atStart => exact ⟨0, Nat.zero_le _, rfl, rfl, rfl, World.ownsRow_nil _ _ _ _, Below.refl _ _⟩
  case round =>
    obtain ⟨k, hk, rfl, rfl, rfl, hown, hbr⟩ := hrel
    by_cases hlt : k < n
    · obtain ⟨x, hx⟩ : ∃ x, L[k]? = some x := ⟨L[k]'(by have := HN.out; omega), List.getElem?_eq_getElem _⟩
      have hxs := HLS.out x (List.mem_of_getElem? hx)
      have cx := cell_of (hrow3.below hbr (Nat.le_refl _)) k x hx
      obtain ⟨y, hy, hyx⟩ : ∃ y, M[k]? = some y ∧ y = if k = 0 then x else x.extract (min (d : Int) (x.size : Int)).toNat x.size := by
        have e := HAT.out k
        rw [hx, Option.map_some] at e
        refine ⟨_, e, ?_⟩
        by_cases h0 : k = 0
        · rw [if_pos h0, if_neg (by omega)]
        · rw [if_neg h0, if_pos ⟨by omega, hlt⟩]; unfold cutA
          rw [show min d x.size = (min (d : Int) (x.size : Int)).toNat by omega]
      have hys := HMS.out y (List.mem_of_getElem? hy)
      have hnx := ft_next (bts M) k _ (bts_at M k y hy)
      have hft : (ft ((bts M).take k)).1 < (ft ((bts M).take k)).2 ∧ (ft ((bts M).take k)).2 ≤ k ∨ (ft ((bts M).take k)).2 = 0 := by
        rcases ft_says k (bts M) (by rw [bts_len, HML.out]; omega) with ⟨e, _⟩ | ⟨h1, h2, _⟩
        · rw [e]; exact .inr rfl
        · exact .inl ⟨h1, h2⟩
      have htk : M.take (k + 1) = M.take k ++ [y] := by rw [List.take_add_one, hy]; rfl
      have HTK := Lib.hid htk
      have hlk : (M.take k).length = k := by rw [List.length_take, HML.out]; omega
      have HLK := Lib.hid hlk
      have hfi := fun w => first_any y (by omega) w
      have hal := ahd_le y.data.toList
      rw [← Lib.size_eq] at hal
      have hbk := blk_size y
      have HNX := Lib.hid hnx
      have HBK := Lib.hid hbk
      clear hx hy hnx htk hbk hlk
      obtain ⟨⟨f, t⟩, hp⟩ : ∃ p, ft ((bts M).take k) = p := ⟨_, rfl⟩
      rw [hp] at hft HNX ⊢
      clear hp
      generalize blk y.data.toList = bk at *
      generalize ahd y.data.toList = a at *
      have HFI := Lib.hid hfi
      clear hfi
      have hlk2 : (M.take k).length ≤ 4294967295 := by rw [HLK.out]; omega
      by_cases h0 : k = 0
      · subst h0
        rw [if_pos rfl] at hyx
        subst hyx
        by_cases he : a = (y).size
        · obtain rfl : bk = true := by rw [HBK.out]; simp [he]
          have HO : Hid (ft ((bts M).take (0 + 1)) = (f, t)) := Lib.hid (by rw [HNX.out]; rfl)
          have hge : ¬ a < (y).size := by omega
          clear he
          go_wp2_with (first | (go_at_call 87; refine (HFI.out _).mono ?_; rintro e w5 ⟨rfl, rfl⟩) | (at_builtin; refine wpList_append_own _ rfl _ _ 62 rfl w3.heap.size 9 i0 (.string ⟨#[]⟩) 1 16 Tryz.underlying62 hi hz0 hz1 hz2 rfl (by decide) _ _ _ rfl (hown.alloc _) ⟨wr.heap.size, 0, none⟩ 1 1 [.string y] rfl rfl (cell_one_new _ _ _) (by simp [Value.oneCell']) (by unfold maxLen; omega) (by omega) (by have := hbr.size; simp; omega) ?_; intro v' w4 hown4 hgrow _))
          obtain ⟨r1, r2, r3⟩ := rel_put0 hown hbr hbr.size hown4 hgrow
          refine ⟨⟨0 + 1, by omega, by go_num, by rw [HO.out], by rw [HO.out], ?_, r2⟩, by simp [intOf]; omega⟩
          rw [HTK.out]; exact r1
        · obtain rfl : bk = false := by rw [HBK.out]; simpa using he
          have hge : a < (y).size := by omega
          clear he
          by_cases ht : t = 0
          · subst ht
            have HO : Hid (ft ((bts M).take (0 + 1)) = (0, 0 + 1)) := Lib.hid (by rw [HNX.out]; rfl)
            have hfr : frR n (f, 0) = n := rfl
            rw [hfr]
            clear hfr
            go_wp2_with (first | (go_at_call 87; refine (HFI.out _).mono ?_; rintro e w5 ⟨rfl, rfl⟩) | (at_builtin; refine wpList_append_own _ rfl _ _ 62 rfl w3.heap.size 9 i0 (.string ⟨#[]⟩) 1 16 Tryz.underlying62 hi hz0 hz1 hz2 rfl (by decide) _ _ _ rfl (hown.alloc _) ⟨wr.heap.size, 0, none⟩ 1 1 [.string y] rfl rfl (cell_one_new _ _ _) (by simp [Value.oneCell']) (by unfold maxLen; omega) (by omega) (by have := hbr.size; simp; omega) ?_; intro v' w4 hown4 hgrow _))
            obtain ⟨r1, r2, r3⟩ := rel_put0 hown hbr hbr.size hown4 hgrow
            refine ⟨⟨0 + 1, by omega, by go_num, by rw [HO.out]; exact val_int (by show min (n : Int) ((0 : Nat) : Int) = ((0 : Nat) : Int); omega), by rw [HO.out]; exact val_int (by show _ = ((0 + 1 : Nat) : Int); omega), ?_, r2⟩, by simp [intOf]; omega⟩
            rw [HTK.out]; exact r1
          · exfalso; have := hft.resolve_right ht; omega
      · rw [if_neg h0] at hyx
        have hk1 : 1 ≤ k := by omega
        have HYX := Lib.hid hyx.symm
        clear h0 hyx
        go_upto_region 11 with fail
        rw [HYX.out]
        by_cases he : a = (y).size
        · obtain rfl : bk = true := by rw [HBK.out]; simp [he]
          have HO : Hid (ft ((bts M).take (k + 1)) = (f, t)) := Lib.hid (by rw [HNX.out]; rfl)
          have hge : ¬ a < (y).size := by omega
          clear he
          go_wp2_with (first | (go_at_call 87; refine (HFI.out _).mono ?_; rintro e w5 ⟨rfl, rfl⟩) | (at_builtin; refine wpList_append_own _ rfl _ _ 62 rfl w3.heap.size 9 i0 (.string ⟨#[]⟩) 1 16 Tryz.underlying62 hi hz0 hz1 hz2 rfl (by decide) _ _ _ rfl (hown.alloc _) ⟨wr.heap.size, 0, none⟩ 1 1 [.string y] rfl rfl (cell_one_new _ _ _) (by simp [Value.oneCell']) (by unfold maxLen; omega) (by omega) (by have := hbr.size; simp; omega) ?_; intro v' w4 hown4 hgrow _))
          obtain ⟨r1, r2, r3⟩ := rel_put0 hown hbr hbr.size hown4 hgrow
          refine ⟨⟨k + 1, by omega, by go_num, by rw [HO.out], by rw [HO.out], ?_, r2⟩, by simp [intOf]; omega⟩
          rw [HTK.out]; exact r1
        · obtain rfl : bk = false := by rw [HBK.out]; simpa using he
          have hge : a < (y).size := by omega
          clear he
          by_cases ht : t = 0
          · subst ht
            have HO : Hid (ft ((bts M).take (k + 1)) = (k, k + 1)) := Lib.hid (by rw [HNX.out]; rfl)
            have hfr : frR n (f, 0) = n := rfl
            rw [hfr]
            clear hfr
            go_wp2_with (first | (go_at_call 87; refine (HFI.out _).mono ?_; rintro e w5 ⟨rfl, rfl⟩) | (at_builtin; refine wpList_append_own _ rfl _ _ 62 rfl w3.heap.size 9 i0 (.string ⟨#[]⟩) 1 16 Tryz.underlying62 hi hz0 hz1 hz2 rfl (by decide) _ _ _ rfl (hown.alloc _) ⟨wr.heap.size, 0, none⟩ 1 1 [.string y] rfl rfl (cell_one_new _ _ _) (by simp [Value.oneCell']) (by unfold maxLen; omega) (by omega) (by have := hbr.size; simp; omega) ?_; intro v' w4 hown4 hgrow _))
            obtain ⟨r1, r2, r3⟩ := rel_put0 hown hbr hbr.size hown4 hgrow
            refine ⟨⟨k + 1, by omega, by go_num, by rw [HO.out]; exact val_int (by show min (n : Int) ((k : Nat) : Int) = ((k : Nat) : Int); omega), by rw [HO.out]; exact val_int (by show _ = ((k + 1 : Nat) : Int); omega), ?_, r2⟩, by simp [intOf]; omega⟩
            rw [HTK.out]; exact r1
          · have HO : Hid (ft ((bts M).take (k + 1)) = (f, k + 1)) := Lib.hid (by rw [HNX.out, if_neg (by simp)]; show (if t = 0 then k else f, k + 1) = _; rw [if_neg ht])
            have hfr : frR n (f, t) = f := by unfold frR; rw [if_neg ht]
            rw [hfr]
            have hfk : f < t ∧ t ≤ k := hft.resolve_right ht
            clear hfr ht
            go_wp2_with (first | (go_at_call 87; refine (HFI.out _).mono ?_; rintro e w5 ⟨rfl, rfl⟩) | (at_builtin; refine wpList_append_own _ rfl _ _ 62 rfl w3.heap.size 9 i0 (.string ⟨#[]⟩) 1 16 Tryz.underlying62 hi hz0 hz1 hz2 rfl (by decide) _ _ _ rfl (hown.alloc _) ⟨wr.heap.size, 0, none⟩ 1 1 [.string y] rfl rfl (cell_one_new _ _ _) (by simp [Value.oneCell']) (by unfold maxLen; omega) (by omega) (by have := hbr.size; simp; omega) ?_; intro v' w4 hown4 hgrow _))
            obtain ⟨r1, r2, r3⟩ := rel_put0 hown hbr hbr.size hown4 hgrow
            refine ⟨⟨k + 1, by omega, by go_num, by rw [HO.out]; exact val_int (by show min (f : Int) ((k : Nat) : Int) = (f : Int); omega), by rw [HO.out]; exact val_int (by show _ = ((k + 1 : Nat) : Int); omega), ?_, r2⟩, by simp [intOf]; omega⟩
            rw [HTK.out]; exact r1
    · obtain rfl : k = n := by omega
      have e1 : (bts M).take k = bts M := List.take_of_length_le (by rw [bts_len, HML.out]; exact Nat.le_refl _)
      have e2 : M.take k = M := List.take_of_length_le (by rw [HML.out]; exact Nat.le_refl _)
      rw [e1]
      rw [e2] at hown
      obtain ⟨g2, cap2, hv⟩ := Joins.ownsRow_form hown (by rw [HML.out]; omega)
      subst hv
      have hrow2 := own_row hown rfl
      have hgc := own_cap hown
      have hcap2 : k ≤ cap2 ∧ cap2 ≤ 2 ^ 63 - 1 := by rw [HML.out] at hgc; unfold maxLen at hgc; exact hgc
      obtain ⟨⟨f, t⟩, hp⟩ : ∃ p, ft (bts M) = p := ⟨_, rfl⟩
      have hel := edg_len (bts M)
      have hes := edg_lens (bts M)
      rw [hp] at hel ⊢
      have hq : t = 0 ∧ f = 0 ∨ (f < t ∧ t ≤ k) := by
        rcases ft_whole (bts M) with ⟨e, _⟩ | ⟨h1, h2, _⟩
        · rw [hp] at e; cases e; exact .inl ⟨rfl, rfl⟩
        · rw [hp, bts_len, HML.out] at h2; rw [hp] at h1; exact .inr ⟨h1, h2⟩
      obtain ⟨F, hF⟩ : ∃ F, F = frR k (f, t) := ⟨_, rfl⟩
      have hFt : (t = 0 ∧ F = k) ∨ (F = f ∧ f < t ∧ t ≤ k) := by
        rcases hq with ⟨h1, h2⟩ | ⟨h1, h2⟩
        · exact .inl ⟨h1, by rw [hF]; unfold frR; rw [if_pos h1]⟩
        · exact .inr ⟨by rw [hF]; unfold frR; rw [if_neg (by simp only; omega)], h1, h2⟩
      rw [← hF]
      have hat2 : ∀ j z, f ≤ j → j < t → M[j]? = some z → (edg (bts M))[j - f]? = some z.data.toList := by
        intro j z h1 h2 hz
        unfold edg
        rw [hp, List.getElem?_take, if_pos (by simp only; omega), List.getElem?_drop, show f + (j - f) = j by omega]
        exact bts_at M j z hz
      have HA2 := Lib.hid hat2
      have hJ2 : Lib.lens (edg (bts M)) + (edg (bts M)).length ≤ 4000001 := by have := HJ.out; rw [bts_len, HML.out] at hes; omega
      have HJ2 := Lib.hid hJ2
      have HEL := Lib.hid hel
      clear hat2 hJ2 hel hes hp hq hF e1 e2
      obtain ⟨E, hE⟩ : ∃ E, edg (bts M) = E := ⟨_, rfl⟩
      have HEE := Lib.hid hE
      rw [hE] at HA2 HJ2 HEL
      clear hE
      go_wp2
      go_loop [10, 11] (fun o i => ∃ (j : Nat) (S : ByteArray), F ≤ j ∧ (j ≤ t ∨ j = F) ∧ i = .int .i64 j ∧ o = .string S ∧ S.data.toList = Lib.join (E.take (j - F)) [10]) (fun _ i => t - (intOf i).toNat)
      case atStart => exact ⟨F, ⟨#[]⟩, Nat.le_refl _, .inr rfl, rfl, rfl, by simp [Lib.join_nil]⟩
      case round =>
        obtain ⟨j, S, hj1, hj2, rfl, rfl, hS⟩ := hrel
        have HS := Lib.hid hS
        have hSz : S.size ≤ 4000001 := by
          have h1 := join_len (E.take (j - F))
          have h2 := Lib.lens_take_le E (j - F)
          have h3 : (E.take (j - F)).length ≤ E.length := by rw [List.length_take]; omega
          have h4 := HJ2.out
          rw [← hS, ← Lib.size_eq] at h1
          omega
        clear hS
        by_cases hlt2 : j < t
        · obtain ⟨hFf, hft2, htk⟩ : F = f ∧ f < t ∧ t ≤ k := hFt.resolve_left (by omega)
          subst hFf
          obtain ⟨z, hz⟩ : ∃ z, M[j]? = some z := ⟨M[j]'(by have := HML.out; omega), List.getElem?_eq_getElem _⟩
          have hzs := HMS.out z (List.mem_of_getElem? hz)
          have cz := cell_of hrow2 j z hz
          have hjm : j < M.length := by rw [HML.out]; omega
          have hez := HA2.out j z hj1 hlt2 hz
          have htk1 : E.take (j + 1 - F) = E.take (j - F) ++ [z.data.toList] := by
            rw [show j + 1 - F = (j - F) + 1 by omega, List.take_add_one, hez]; rfl
          have hlk : (E.take (j - F)).length = j - F := by
            have := (List.getElem?_eq_some_iff.1 hez).1
            rw [List.length_take]; omega
          have hsn := join_snoc (E.take (j - F)) z.data.toList
          rw [← htk1, hlk, ← HS.out] at hsn
          have HSN := Lib.hid hsn
          clear hz hez htk1 hlk hsn
          by_cases he : j = F
          · subst he
            have HSN2 := Lib.hid (HSN.out.trans (if_pos (by omega)))
            have HS0 : Hid (S = ⟨#[]⟩) := Lib.hid (ByteArray.ext (by have := HS.out; rw [Nat.sub_self, List.take_zero, Lib.join_nil] at this; exact Array.toList_inj.1 (by simpa using this)))
            go_wp2
            refine ⟨⟨j + 1, S ++ z, by omega, .inl (by omega), by go_num, rfl, ?_⟩, by simp [intOf] <;> omega⟩
            rw [HSN2.out, app_data, HS0.out]; simp
          · have HSN2 := Lib.hid (HSN.out.trans (if_neg (by omega)))
            have hgt : F < j := by omega
            clear he
            go_wp2
            refine ⟨⟨j + 1, S ++ ⟨#[10]⟩ ++ z, by omega, .inl (by omega), by go_num, rfl, ?_⟩, by simp [intOf] <;> omega⟩
            rw [HSN2.out, app_data, app_data]; simp
        · have HE : Hid (E.take (j - F) = E) := Lib.hid (List.take_of_length_le (by rw [HEL.out]; omega))
          go_wp2
          go_ret
          refine ⟨?_, Below_next hB3 hbr⟩
          have h1 := HS.out
          rw [HE.out] at h1
          rw [HEE.out, ← h1]
          show Ending.returned (.string S) = _
          simp
end Go.Proofs.YtejniiehfangkaaGreatDoor.Bk

/- The document's own raw texts. -/
set_option linter.unusedVariables false
set_option linter.unusedSimpArgs false
namespace Go.Proofs.YtejniiehfangkaaGreatDoor
open Go.RowKit
theorem rE_next {x : ByteArray} {k : Nat} (hk : k < x.size) (h : rw3 (x.data.toList.drop k) = false) : rE x k = rE x (k + 1) := by
  unfold rE
  rw [Nat.add_sub_cancel]
  rw [drop_cons x k hk] at h ⊢
  conv => lhs; unfold rawE
  rw [h, if_neg (by simp), Option.map_map]
  congr 1
  funext j
  simp only [Function.comp]
  omega
theorem rE_end {x : ByteArray} {k : Nat} (hk : ¬ k < x.size) : rE x k = none := by
  unfold rE
  rw [List.drop_of_length_le (by rw [← Lib.size_eq]; omega)]
  rfl
/-- No byte from F to i that a raw text may not have. -/
def NoCt (x : ByteArray) (F i : Nat) : Prop := ∀ j, F ≤ j → j < i → ctB (x.get! j) = false
theorem any_ct {x : ByteArray} {F k : Nat} (hk : k ≤ x.size) : ((x.data.toList.drop F).take (k - F)).any ctB = true ↔ ¬ NoCt x F k := by
  rw [List.any_eq_true]
  unfold NoCt
  constructor
  · rintro ⟨c, hc, h⟩ hno
    obtain ⟨i, hi, rfl⟩ := List.mem_iff_getElem.1 hc
    rw [List.length_take, List.length_drop, ← Lib.size_eq] at hi
    have := hno (F + i) (by omega) (by omega)
    rw [List.getElem_take, List.getElem_drop, get_bang_data x (F + i) (by omega)] at h
    rw [h] at this
    cases this
  · intro h
    refine Classical.byContradiction fun hn => h fun j h1 h2 => ?_
    cases hc : ctB (x.get! j)
    · rfl
    · refine absurd ⟨x.get! j, List.mem_iff_getElem.2 ⟨j - F, by rw [List.length_take, List.length_drop, ← Lib.size_eq]; omega, ?_⟩, hc⟩ hn
      rw [List.getElem_take, List.getElem_drop, ← get_bang_data x j (by omega)]
      congr 1
      omega
def ctI (c : Int) : Bool := decide (c < 32) && ((c != 9) && ((c != 10) && (c != 13)))
theorem ct_int (c : UInt8) : ctB c = ctI (c.toNat : Int) := by
  rw [← ctR_byte]; rfl
/-- What a raw text comes to whose end is told. -/
def rawOf (s : ByteArray) (a : Nat) : Option Nat → Fst
  | none => .no 0
  | some k => if ((s.data.toList.drop (a + 3)).take (k - (a + 3))).any ctB then .no 0 else .ok 4 (Bk.valM ((s.data.toList.drop (a + 3)).take (k - (a + 3)))) (k - (a + 3) + 6)
set_option maxHeartbeats 4000000 in
set_option maxRecDepth 100000 in
theorem raw_ref (s : ByteArray) (a : Nat) (h3 : rw3 (s.data.toList.drop a) = true) (hs : s.size ≤ 1000000) (G : Fst) (hG : rawL (s.data.toList.drop a) = G) (w : World) : Calls Tryz.prog 46 #[.string s, .int .i64 (a : Nat)] w fun e w' => OneR G a e ∧ Below w.heap.size w w' := by
  have h3s : a + 3 ≤ s.size := by
    have := rw3_len h3
    rw [List.length_drop, ← Lib.size_eq] at this
    omega
  have h34 : s.get! (a + 3 - 1) = 34 := by
    unfold rw3 at h3
    rw [List.isPrefixOf_iff_prefix] at h3
    obtain ⟨t, ht⟩ := h3
    have d0 := drop_some s a _ _ ht.symm
    have d1 := drop_some s (a + 1) _ _ d0.2.2
    have d2 := drop_some s (a + 1 + 1) _ _ d1.2.2
    exact d2.2.1
  obtain ⟨R, hR⟩ : ∃ R, rE s (a + 3) = R := ⟨_, rfl⟩
  have hX : G = rawOf s a R := by
    rw [← hG, ← hR]
    unfold rawL rE
    rw [h34, List.drop_drop]
    cases rawE 0 34 (s.data.toList.drop (a + 3)) with
    | none => rfl
    | some j =>
      simp only [Option.map_some, rawOf]
      rw [Nat.add_sub_cancel]
  have HX := Lib.hid hX
  have HR0 := Lib.hid hR
  have HR := Lib.hid (row5 (heap_alloc_new w zO))
  have HB0 := Lib.hid ((Below.refl w.heap.size w).alloc (Nat.le_refl _) zO)
  have HS0 := Lib.hid (show (w.alloc zO).heap.size = w.heap.size + 1 by simp)
  clear h3 h34 hX hG hR
  go_enter Tryz.func46, Tryz.ntmps46
  go_wp2_with fail
  generalize w.alloc zO = w0 at HR HB0 HS0 ⊢
  go_loopw [6, 7] (fun v _ wr => ∃ k : Nat, v = .int .i64 (k : Nat) ∧ a + 3 ≤ k ∧ k ≤ s.size ∧ rE s k = R ∧ w0 = wr) (fun v _ _ => s.size - (intOf v).toNat)
  case atStart => exact ⟨a + 3, by go_num, Nat.le_refl _, h3s, HR0.out, rfl⟩
  case round =>
    obtain ⟨k, rfl, hak, hks, hr, rfl⟩ := hrel
    have HRK := Lib.hid hr
    clear hr
    by_cases hlt : k < s.size
    · have KBG := Lib.hid (fun b hb => begins_ref s ⟨#[34, 34, 34]⟩ k (by omega) hs (by decide) b hb w0)
      cases hb : rw3 (s.data.toList.drop k)
      · have HN : Hid (rE s (k + 1) = R) := Lib.hid (by rw [← rE_next hlt hb]; exact HRK.out)
        have KB := Lib.hid (KBG.out false hb)
        clear hb KBG
        go_wp2_with fail
        refine KB.out.mono ?_
        rintro e w1 ⟨rfl, rfl⟩
        go_wp2_with fail
        exact ⟨⟨k + 1, by go_num, by omega, by omega, HN.out, by first | rfl | trivial⟩, by simp [intOf]; omega⟩
      · have KB := Lib.hid (KBG.out true hb)
        obtain ⟨h1, h2, h4⟩ := rE_at (x := s) (a := k) (i := 0) (by omega) (Nat.zero_le _) (by rw [occ_zero]; exact hb) (fun j hj => by omega)
        rw [Nat.add_zero] at h1 h2 h4
        have hk1 : k - 1 < s.size := by omega
        have hgk := get_bang s (k - 1) hk1
        have hsub : ((k : Int) - 1) = ((k - 1 : Nat) : Int) := by omega
        by_cases h92 : (s.get! (k - 1)).toNat = 92
        · have HN : Hid (rE s (k + 3) = R) := Lib.hid (by rw [← h4 h92]; exact HRK.out)
          have e92 : (((s[k - 1]'hk1).toNat : Int) == 92) = true := by rw [← hgk, h92]; rfl
          clear hb KBG h2 h4 hgk h92
          go_wp2_with fail
          refine KB.out.mono ?_
          rintro e w1 ⟨rfl, rfl⟩
          go_wp2_with fail
          exact ⟨⟨k + 3, by go_num, by omega, h1, HN.out, by first | rfl | trivial⟩, by simp [intOf]; omega⟩
        · have HRS : Hid (R = some k) := Lib.hid (by rw [← h2 h92]; exact HRK.out.symm)
          have e92 : (((s[k - 1]'hk1).toNat : Int) == 92) = false := beq_eq_false_iff_ne.2 (by rw [← hgk]; omega)
          clear hb KBG h2 h4 hgk h92
          go_wp2_with fail
          refine KB.out.mono ?_
          rintro e w1 ⟨rfl, rfl⟩
          go_wp2_with fail
          go_loopw [7] (fun v wr => ∃ i : Nat, v = .int .i64 (i : Nat) ∧ a + 3 ≤ i ∧ i ≤ k ∧ NoCt s (a + 3) i ∧ w0 = wr) (fun v _ => k - (intOf v).toNat)
          case atStart => exact ⟨a + 3, by go_num, Nat.le_refl _, hak, fun j h1 h2 => by omega, rfl⟩
          case round =>
            obtain ⟨i, rfl, hai, hik, hno, rfl⟩ := hrel
            have HNO := Lib.hid hno
            clear hno hsub e92
            by_cases hlk : i < k
            · have his : i < s.size := by omega
              have hgi := get_bang s i his
              have hci := ct_int (s.get! i)
              rw [hgi] at hci
              cases hct : ctI ((s[i]'his).toNat : Int)
              · have HN : Hid (NoCt s (a + 3) (i + 1)) := Lib.hid (fun j h1 h2 => by
                  by_cases e : j = i
                  · subst e; rw [hgi, hci, hct]
                  · exact HNO.out j h1 (by omega))
                unfold ctI at hct
                clear hgi hci
                by_cases c1 : ((s[i]'his).toNat : Int) < 32
                · have d1 : decide (((s[i]'his).toNat : Int) < 32) = true := decide_eq_true c1
                  rw [d1, Bool.true_and] at hct
                  clear c1
                  cases c9 : (((s[i]'his).toNat : Int) != 9)
                  · clear hct
                    go_wp2_with fail
                    exact ⟨⟨i + 1, by go_num, by omega, by omega, HN.out, by first | rfl | trivial⟩, by simp [intOf]; omega⟩
                  · rw [c9, Bool.true_and] at hct
                    cases c10 : (((s[i]'his).toNat : Int) != 10)
                    · clear hct
                      go_wp2_with fail
                      exact ⟨⟨i + 1, by go_num, by omega, by omega, HN.out, by first | rfl | trivial⟩, by simp [intOf]; omega⟩
                    · rw [c10, Bool.true_and] at hct
                      go_wp2_with fail
                      exact ⟨⟨i + 1, by go_num, by omega, by omega, HN.out, by first | rfl | trivial⟩, by simp [intOf]; omega⟩
                · have d1 : decide (((s[i]'his).toNat : Int) < 32) = false := decide_eq_false c1
                  clear hct c1
                  go_wp2_with fail
                  exact ⟨⟨i + 1, by go_num, by omega, by omega, HN.out, by first | rfl | trivial⟩, by simp [intOf]; omega⟩
              · have HG : Hid (G = .no 0) := Lib.hid (by
                  rw [HX.out, HRS.out]
                  unfold rawOf
                  dsimp only
                  rw [if_pos ((any_ct (by omega)).2 fun hno => by
                    have := hno i hai hlk
                    rw [hgi, hci, hct] at this
                    cases this)])
                unfold ctI at hct
                simp only [Bool.and_eq_true] at hct
                obtain ⟨d1, d9, d10, d13⟩ := hct
                clear hgi hci
                go_wp2_with fail
                refine (wrong_ref (a : Int) w0).mono ?_
                rintro e w9 ⟨rfl, hb9⟩
                have HR9 := Lib.hid (row_blk HR.out (hb9.block _ (show w.heap.size < w0.heap.size by rw [HS0.out]; omega)))
                have HB9 := Lib.hid (HB0.out.trans (hb9.mono (by rw [HS0.out]; omega)))
                clear hb9
                have z0 := HR9.out.cell (show 0 < 5 by decide)
                have z1 := HR9.out.cell (show 1 < 5 by decide)
                have z2 := HR9.out.cell (show 2 < 5 by decide)
                have z3 := HR9.out.cell (show 3 < 5 by decide)
                have z4 := HR9.out.cell (show 4 < 5 by decide)
                have g0 := HR9.out.frozen 0
                have g1 := HR9.out.frozen 1
                have g2 := HR9.out.frozen 2
                have g3 := HR9.out.frozen 3
                have g4 := HR9.out.frozen 4
                simp only [o5, List.getD_cons_succ, List.getD_cons_zero] at z0 z1 z2 z3 z4
                go_wp2_with fail
                refine bodyPost_ret (v := .agg #[.int .i64 0, .string ⟨#[]⟩, .int .i64 0, .int .i64 (a : Int), .int .i64 3]) (by simp [results, Tryz.results46, go_sem, z0, z1, z2, z3, z4]; try rfl) rfl ?_
                refine ⟨?_, resO_below HB9.out (Nat.le_refl _)⟩
                rw [HG.out]
                rfl
            · obtain rfl : i = k := by omega
              obtain ⟨V, hV⟩ : ∃ V : ByteArray, (⟨(Bk.valM (s.extract (a + 3) i).data.toList).toArray⟩ : ByteArray) = V := ⟨_, rfl⟩
              have hEd : (s.extract (a + 3) i).data.toList = (s.data.toList.drop (a + 3)).take (i - (a + 3)) := by rw [Lib.extract_data]
              have HG : Hid (G = .ok 4 V.data.toList (i - (a + 3) + 6)) := Lib.hid (by
                rw [HX.out, HRS.out]
                unfold rawOf
                dsimp only
                rw [if_neg (fun h => (any_ct (by omega)).1 h HNO.out), ← hV, hEd])
              have KV : Hid (Calls Tryz.prog 66 #[.string (s.extract (a + 3) i)] w0 fun e w' => e = .returned (.string V) ∧ Below w0.heap.size w0 w') := Lib.hid (by rw [← hV]; exact Bk.value_ref (s.extract (a + 3) i) (by rw [ByteArray.size_extract]; omega) w0)
              clear hV hEd
              go_wp2_with fail
              refine KV.out.mono ?_
              rintro e w9 ⟨rfl, hb9⟩
              have HR9 := Lib.hid (row_blk HR.out (hb9.block _ (show w.heap.size < w0.heap.size by rw [HS0.out]; omega)))
              have HB9 := Lib.hid (HB0.out.trans (hb9.mono (by rw [HS0.out]; omega)))
              clear hb9
              have z0 := HR9.out.cell (show 0 < 5 by decide)
              have z1 := HR9.out.cell (show 1 < 5 by decide)
              have z2 := HR9.out.cell (show 2 < 5 by decide)
              have z3 := HR9.out.cell (show 3 < 5 by decide)
              have z4 := HR9.out.cell (show 4 < 5 by decide)
              have g0 := HR9.out.frozen 0
              have g1 := HR9.out.frozen 1
              have g2 := HR9.out.frozen 2
              have g3 := HR9.out.frozen 3
              have g4 := HR9.out.frozen 4
              simp only [o5, List.getD_cons_succ, List.getD_cons_zero] at z0 z1 z2 z3 z4
              go_wp2_with fail
              refine bodyPost_ret (v := .agg #[.int .i64 4, .string V, .int .i64 a, .int .i64 ((i : Int) + 3), .int .i64 0]) (by simp [results, Tryz.results46, go_sem, z0, z1, z2, z3, z4]; try rfl) rfl ?_
              refine ⟨?_, resO_below HB9.out (Nat.le_refl _)⟩
              rw [HG.out]
              show _ = Ending.returned (.agg #[.int .i64 4, .string ⟨V.data.toList.toArray⟩, .int .i64 (a : Nat), .int .i64 ((a + (i - (a + 3) + 6) : Nat) : Int), .int .i64 0])
              rw [ba_eq, show a + (i - (a + 3) + 6) = i + 3 by omega, Int.natCast_add]
              rfl
    · have HG : Hid (G = .no 0) := Lib.hid (by rw [HX.out, ← HRK.out, rE_end hlt]; rfl)
      go_wp2_with fail
      refine (wrong_ref (a : Int) w0).mono ?_
      rintro e w9 ⟨rfl, hb9⟩
      have HR9 := Lib.hid (row_blk HR.out (hb9.block _ (show w.heap.size < w0.heap.size by rw [HS0.out]; omega)))
      have HB9 := Lib.hid (HB0.out.trans (hb9.mono (by rw [HS0.out]; omega)))
      clear hb9
      have z0 := HR9.out.cell (show 0 < 5 by decide)
      have z1 := HR9.out.cell (show 1 < 5 by decide)
      have z2 := HR9.out.cell (show 2 < 5 by decide)
      have z3 := HR9.out.cell (show 3 < 5 by decide)
      have z4 := HR9.out.cell (show 4 < 5 by decide)
      have g0 := HR9.out.frozen 0
      have g1 := HR9.out.frozen 1
      have g2 := HR9.out.frozen 2
      have g3 := HR9.out.frozen 3
      have g4 := HR9.out.frozen 4
      simp only [o5, List.getD_cons_succ, List.getD_cons_zero] at z0 z1 z2 z3 z4
      go_wp2_with fail
      refine bodyPost_ret (v := .agg #[.int .i64 0, .string ⟨#[]⟩, .int .i64 0, .int .i64 (a : Int), .int .i64 3]) (by simp [results, Tryz.results46, go_sem, z0, z1, z2, z3, z4]; try rfl) rfl ?_
      refine ⟨?_, resO_below HB9.out (Nat.le_refl _)⟩
      rw [HG.out]
      rfl
end Go.Proofs.YtejniiehfangkaaGreatDoor

/- The document's own Rune. -/
set_option linter.unusedVariables false
set_option linter.unusedSimpArgs false
namespace Go.Proofs.YtejniiehfangkaaGreatDoor
open Go.RowKit
set_option maxHeartbeats 1000000 in
set_option maxRecDepth 100000 in
theorem rune_1 (n : Nat) (r : Int) (hr : r = n) (h1 : 0 ≤ r) (h2 : r < 128) (w : World) : Calls Tryz.prog 68 #[.int .i32 r] w fun e w' => e = .returned (.string ⟨(encL n).toArray⟩) ∧ Below w.heap.size w w' := by
  have he : encL n = [UInt8.ofNat n] := by unfold encL; rw [if_pos (by omega)]
  have hbc : Lib.byteCells (encL n) = [.int .u8 (r)] := by
    rw [he]; simp only [Lib.byteCells, List.map_cons, List.map_nil, u8 n (by omega)]; subst hr; rfl
  have hcv := conv_new w (encL n) #[.int .u8 (r)] 1 (by rw [he]; rfl) (by rw [hbc])
  generalize encL n = L at *
  clear he hbc hr
  go_enter Tryz.func68, Tryz.ntmps68
  go_wp2
  go_ret
  exact ⟨rfl, (Below.refl _ _).alloc (Nat.le_refl _) _⟩
set_option maxHeartbeats 1000000 in
set_option maxRecDepth 100000 in
theorem rune_2 (n : Nat) (r : Int) (hr : r = n) (h1 : 128 ≤ r) (h2 : r < 2048) (w : World) : Calls Tryz.prog 68 #[.int .i32 r] w fun e w' => e = .returned (.string ⟨(encL n).toArray⟩) ∧ Below w.heap.size w w' := by
  have he : encL n = [UInt8.ofNat (192 + n / 64), UInt8.ofNat (128 + n % 64)] := by unfold encL; rw [if_neg (by omega), if_pos (by omega)]
  have hbc : Lib.byteCells (encL n) = [.int .u8 (192 + r / 64), .int .u8 (128 + r % 64)] := by
    rw [he]; simp only [Lib.byteCells, List.map_cons, List.map_nil, u8 (192 + n / 64) (by omega), u8 (128 + n % 64) (by omega)]; subst hr; rfl
  have hcv := conv_new w (encL n) #[.int .u8 (192 + r / 64), .int .u8 (128 + r % 64)] 2 (by rw [he]; rfl) (by rw [hbc])
  generalize encL n = L at *
  clear he hbc hr
  go_enter Tryz.func68, Tryz.ntmps68
  go_wp2
  go_ret
  exact ⟨rfl, (Below.refl _ _).alloc (Nat.le_refl _) _⟩
set_option maxHeartbeats 1000000 in
set_option maxRecDepth 100000 in
theorem rune_3a (n : Nat) (r : Int) (hr : r = n) (h1 : 2048 ≤ r) (h2 : r < 55296) (w : World) : Calls Tryz.prog 68 #[.int .i32 r] w fun e w' => e = .returned (.string ⟨(encL n).toArray⟩) ∧ Below w.heap.size w w' := by
  have he : encL n = [UInt8.ofNat (224 + n / 4096), UInt8.ofNat (128 + n / 64 % 64), UInt8.ofNat (128 + n % 64)] := by unfold encL; rw [if_neg (by omega), if_neg (by omega), if_pos (by omega)]
  have hbc : Lib.byteCells (encL n) = [.int .u8 (224 + r / 4096), .int .u8 (128 + r / 64 % 64), .int .u8 (128 + r % 64)] := by
    rw [he]; simp only [Lib.byteCells, List.map_cons, List.map_nil, u8 (224 + n / 4096) (by omega), u8 (128 + n / 64 % 64) (by omega), u8 (128 + n % 64) (by omega)]; subst hr; rfl
  have hcv := conv_new w (encL n) #[.int .u8 (224 + r / 4096), .int .u8 (128 + r / 64 % 64), .int .u8 (128 + r % 64)] 3 (by rw [he]; rfl) (by rw [hbc])
  generalize encL n = L at *
  clear he hbc hr
  go_enter Tryz.func68, Tryz.ntmps68
  go_wp2
  go_ret
  exact ⟨rfl, (Below.refl _ _).alloc (Nat.le_refl _) _⟩
set_option maxHeartbeats 1000000 in
set_option maxRecDepth 100000 in
theorem rune_3b (n : Nat) (r : Int) (hr : r = n) (h1 : 57344 ≤ r) (h2 : r < 65536) (w : World) : Calls Tryz.prog 68 #[.int .i32 r] w fun e w' => e = .returned (.string ⟨(encL n).toArray⟩) ∧ Below w.heap.size w w' := by
  have he : encL n = [UInt8.ofNat (224 + n / 4096), UInt8.ofNat (128 + n / 64 % 64), UInt8.ofNat (128 + n % 64)] := by unfold encL; rw [if_neg (by omega), if_neg (by omega), if_pos (by omega)]
  have hbc : Lib.byteCells (encL n) = [.int .u8 (224 + r / 4096), .int .u8 (128 + r / 64 % 64), .int .u8 (128 + r % 64)] := by
    rw [he]; simp only [Lib.byteCells, List.map_cons, List.map_nil, u8 (224 + n / 4096) (by omega), u8 (128 + n / 64 % 64) (by omega), u8 (128 + n % 64) (by omega)]; subst hr; rfl
  have hcv := conv_new w (encL n) #[.int .u8 (224 + r / 4096), .int .u8 (128 + r / 64 % 64), .int .u8 (128 + r % 64)] 3 (by rw [he]; rfl) (by rw [hbc])
  generalize encL n = L at *
  clear he hbc hr
  go_enter Tryz.func68, Tryz.ntmps68
  go_wp2
  go_ret
  exact ⟨rfl, (Below.refl _ _).alloc (Nat.le_refl _) _⟩
set_option maxHeartbeats 1000000 in
set_option maxRecDepth 100000 in
theorem rune_4 (n : Nat) (r : Int) (hr : r = n) (h1 : 65536 ≤ r) (h2 : r < 1114112) (w : World) : Calls Tryz.prog 68 #[.int .i32 r] w fun e w' => e = .returned (.string ⟨(encL n).toArray⟩) ∧ Below w.heap.size w w' := by
  have he : encL n = [UInt8.ofNat (240 + n / 262144), UInt8.ofNat (128 + n / 4096 % 64), UInt8.ofNat (128 + n / 64 % 64), UInt8.ofNat (128 + n % 64)] := by unfold encL; rw [if_neg (by omega), if_neg (by omega), if_neg (by omega)]
  have hbc : Lib.byteCells (encL n) = [.int .u8 (240 + r / 262144), .int .u8 (128 + r / 4096 % 64), .int .u8 (128 + r / 64 % 64), .int .u8 (128 + r % 64)] := by
    rw [he]; simp only [Lib.byteCells, List.map_cons, List.map_nil, u8 (240 + n / 262144) (by omega), u8 (128 + n / 4096 % 64) (by omega), u8 (128 + n / 64 % 64) (by omega), u8 (128 + n % 64) (by omega)]; subst hr; rfl
  have hcv := conv_new w (encL n) #[.int .u8 (240 + r / 262144), .int .u8 (128 + r / 4096 % 64), .int .u8 (128 + r / 64 % 64), .int .u8 (128 + r % 64)] 4 (by rw [he]; rfl) (by rw [hbc])
  generalize encL n = L at *
  clear he hbc hr
  go_enter Tryz.func68, Tryz.ntmps68
  go_wp2
  go_ret
  exact ⟨rfl, (Below.refl _ _).alloc (Nat.le_refl _) _⟩
theorem rune_yes (r : Int) (hr : isR r = true) (w : World) : Calls Tryz.prog 68 #[.int .i32 r] w fun e w' => e = .returned (.string ⟨(encL r.toNat).toArray⟩) ∧ Below w.heap.size w w' := by
  have hz := (isR_nat r hr).1
  have hr' : (0 ≤ r ∧ r < 55296) ∨ (57343 < r ∧ r ≤ 1114111) := by simpa [isR] using hr
  by_cases a : r < 128
  · exact rune_1 r.toNat r hz.symm (by omega) a w
  · by_cases b : r < 2048
    · exact rune_2 r.toNat r hz.symm (by omega) b w
    · by_cases c : r < 55296
      · exact rune_3a r.toNat r hz.symm (by omega) c w
      · by_cases d : r < 65536
        · exact rune_3b r.toNat r hz.symm (by omega) d w
        · exact rune_4 r.toNat r hz.symm (by omega) (by omega) w
end Go.Proofs.YtejniiehfangkaaGreatDoor

/- The document's own Unquote, walked: four, sign. -/
set_option linter.unusedVariables false
set_option linter.unusedSimpArgs false
namespace Go.Proofs.YtejniiehfangkaaGreatDoor
open Go.RowKit
/-- The number of the first k digits from i on. -/
def vkA (s : ByteArray) (i : Nat) : Nat → Nat
  | 0 => 0
  | k + 1 => vkA s i k * 16 + g4 s i k
def DigsA (s : ByteArray) (i k : Nat) : Prop := ∀ j, j < k → g4 s i j < 16
theorem vkA_bd (s : ByteArray) (i k : Nat) (h : DigsA s i k) (hk : k ≤ 4) : vkA s i k ≤ 65535 ∧ (k < 4 → vkA s i k ≤ 4095) := by
  match k, hk with
  | 0, _ => simp [vkA]
  | 1, _ => have := h 0 (by omega); simp [vkA]; omega
  | 2, _ => have := h 0 (by omega); have := h 1 (by omega); simp [vkA]; omega
  | 3, _ => have := h 0 (by omega); have := h 1 (by omega); have := h 2 (by omega); simp [vkA]; omega
  | 4, _ => have := h 0 (by omega); have := h 1 (by omega); have := h 2 (by omega); have := h 3 (by omega); simp [vkA]; omega
theorem digsA_next {s : ByteArray} {i k : Nat} (h : DigsA s i k) (hk : g4 s i k < 16) : DigsA s i (k + 1) := by
  intro j hj
  by_cases e : j = k
  · subst e; exact hk
  · exact h j (by omega)
def fourI (s : ByteArray) (i : Nat) : Int := if is4 s i then (v4 s i : Int) else -1
theorem four_end (s : ByteArray) (i : Nat) (h : ¬ i + 4 ≤ s.size) : fourI s i = -1 := by
  unfold fourI; rw [if_neg]; simp only [is4, Bool.and_eq_true, decide_eq_true_eq]; exact fun x => h x.1
theorem four_no (s : ByteArray) (i k : Nat) (hk : k < 4) (h : g4 s i k = 16) : fourI s i = -1 := by
  unfold fourI
  rw [if_neg]
  simp only [is4, Bool.and_eq_true, decide_eq_true_eq]
  obtain rfl | rfl | rfl | rfl : k = 0 ∨ k = 1 ∨ k = 2 ∨ k = 3 := by omega
  all_goals omega
theorem four_yes (s : ByteArray) (i : Nat) (hz : i + 4 ≤ s.size) (h : DigsA s i 4) : fourI s i = (vkA s i 4 : Int) := by
  unfold fourI
  rw [if_pos]
  · rw [show v4 s i = vkA s i 4 by simp [v4, vkA]]
  · simp only [is4, Bool.and_eq_true, decide_eq_true_eq]
    exact ⟨hz, ⟨⟨h 0 (by omega), h 1 (by omega)⟩, h 2 (by omega)⟩, h 3 (by omega)⟩
set_option maxHeartbeats 2000000 in
set_option maxRecDepth 100000 in
theorem four_any (s : ByteArray) (hs : s.size ≤ 1048576) (i : Nat) (hi : i ≤ 1048600) (w : World) : Calls Tryz.prog 88 #[.string s, .int .i64 i] w fun e w' => e = .returned (.int .i64 (fourI s i)) ∧ w = w' := by
  by_cases h4 : i + 4 ≤ s.size
  · have h4' : ¬ (s.size : Int) - 3 ≤ (i : Int) := by omega
    go_enter Tryz.func88, Tryz.ntmps88
    go_wp2_with fail
    clear h4'
    go_loop [5, 6] (fun n j => ∃ k : Nat, k ≤ 4 ∧ j = .int .i64 (i + k : Nat) ∧ n = .int .i64 (vkA s i k) ∧ DigsA s i k) (fun _ j => i + 4 - (intOf j).toNat)
    case atStart => exact ⟨0, by omega, rfl, rfl, fun j hj => by omega⟩
    case round =>
      obtain ⟨k, hk, rfl, rfl, hd⟩ := hrel
      have HD := Lib.hid hd
      obtain ⟨hv, hv4⟩ := vkA_bd s i k hd hk
      clear hd
      by_cases hlt : k < 4
      · have hv3 := hv4 hlt
        have hin : i + k < s.size := by omega
        have hc8 : s[i + k].toNat < 256 := s[i + k].toNat_lt
        have HG : Hid (g4 s i k = dg s[i + k].toNat) := by unfold g4; rw [get_bang s (i + k) hin]; exact Lib.hid rfl
        have HZ : Hid (∀ d : Nat, dg s[i + k].toNat = d → d < 16 → vkA s i (k + 1) = vkA s i k * 16 + d ∧ DigsA s i (k + 1)) := fun d hd hd16 => by
          have e1 : vkA s i (k + 1) = vkA s i k * 16 + g4 s i k := rfl
          rw [HG.out, hd] at e1
          exact ⟨e1, digsA_next HD.out (by rw [HG.out, hd]; exact hd16)⟩
        have HN : Hid (dg s[i + k].toNat = 16 → fourI s i = -1) := fun h => four_no s i k hlt (by rw [HG.out]; exact h)
        generalize hV : (vkA s i k : Int) = V at *
        have HV := Lib.hid hV
        have hV0 : 0 ≤ V := by omega
        have hV3 : V ≤ 4095 := by omega
        clear hV hv hv4 hv3
        by_cases c1 : 48 ≤ s[i + k].toNat ∧ s[i + k].toNat ≤ 57
        · have E := Lib.hid (HZ.out (s[i + k].toNat - 48) (by unfold dg; rw [if_pos c1]) (by omega))
          obtain ⟨c1, c2⟩ := c1
          go_wp2_with fail
          exact ⟨⟨k + 1, by omega, by go_num, val_int (by rw [E.out.1]; have := HV.out; omega), E.out.2⟩, by simp [intOf]; omega⟩
        · have C1 := Lib.hid c1
          clear c1
          by_cases a1 : s[i + k].toNat < 48
          · have E := Lib.hid (HN.out (by unfold dg; rw [if_neg (by omega), if_neg (by omega), if_neg (by omega)]))
            go_wp2_with fail
            go_ret
            exact ⟨ret_int E.out.symm, rfl⟩
          by_cases a2 : s[i + k].toNat ≤ 57
          · exact absurd ⟨by omega, a2⟩ C1.out
          by_cases a3 : s[i + k].toNat < 65
          · have E := Lib.hid (HN.out (by unfold dg; rw [if_neg (by omega), if_neg (by omega), if_neg (by omega)]))
            go_wp2_with fail
            go_ret
            exact ⟨ret_int E.out.symm, rfl⟩
          by_cases a4 : s[i + k].toNat ≤ 70
          · have E := Lib.hid (HZ.out (s[i + k].toNat - 55) (by unfold dg; rw [if_neg (by omega), if_neg (by omega), if_pos (by omega)]) (by omega))
            go_wp2_with fail
            exact ⟨⟨k + 1, by omega, by go_num, val_int (by rw [E.out.1]; have := HV.out; omega), E.out.2⟩, by simp [intOf]; omega⟩
          by_cases a5 : s[i + k].toNat < 97
          · have E := Lib.hid (HN.out (by unfold dg; rw [if_neg (by omega), if_neg (by omega), if_neg (by omega)]))
            go_wp2_with fail
            go_ret
            exact ⟨ret_int E.out.symm, rfl⟩
          by_cases a6 : s[i + k].toNat ≤ 102
          · have E := Lib.hid (HZ.out (s[i + k].toNat - 87) (by unfold dg; rw [if_neg (by omega), if_pos (by omega)]) (by omega))
            go_wp2_with fail
            exact ⟨⟨k + 1, by omega, by go_num, val_int (by rw [E.out.1]; have := HV.out; omega), E.out.2⟩, by simp [intOf]; omega⟩
          · have E := Lib.hid (HN.out (by unfold dg; rw [if_neg (by omega), if_neg (by omega), if_neg (by omega)]))
            go_wp2_with fail
            go_ret
            exact ⟨ret_int E.out.symm, rfl⟩
      · obtain rfl : k = 4 := by omega
        go_wp2_with fail
        go_ret
        exact ⟨ret_int (four_yes s i h4 HD.out).symm, rfl⟩
  · have h4' : (s.size : Int) - 3 ≤ (i : Int) := by omega
    have HN := Lib.hid (four_end s i h4)
    clear h4
    go_enter Tryz.func88, Tryz.ntmps88
    go_wp2_with fail
    go_ret
    exact ⟨ret_int HN.out.symm, rfl⟩
def sgs : ByteArray := ⟨#[34, 92, 47, 98, 102, 110, 114, 116]⟩
def sts : ByteArray := ⟨#[34, 92, 47, 8, 12, 10, 13, 9]⟩
/-- The signs of one letter. -/
theorem sg_hit (s : ByteArray) (i k : Nat) (h2 : i + 2 ≤ s.size) (hk : k < 8) (h : (sgs.get! k).toNat = (s.get! (i + 1)).toNat) : escR s i = ((sts.get! k).toNat, 2) := by
  unfold escR
  rw [if_pos h2, ← h]
  obtain rfl | rfl | rfl | rfl | rfl | rfl | rfl | rfl : k = 0 ∨ k = 1 ∨ k = 2 ∨ k = 3 ∨ k = 4 ∨ k = 5 ∨ k = 6 ∨ k = 7 := by omega
  all_goals (simp [sgs, sts]; try rfl)
def NoSg (c : Nat) (k : Nat) : Prop := ∀ j, j < k → (sgs.get! j).toNat ≠ c
theorem noSg_all (c : Nat) (h : NoSg c 8) : ¬ (c = 34 ∨ c = 92 ∨ c = 47) ∧ c ≠ 98 ∧ c ≠ 102 ∧ c ≠ 110 ∧ c ≠ 114 ∧ c ≠ 116 := by
  have a0 := h 0 (by omega); have a1 := h 1 (by omega); have a2 := h 2 (by omega); have a3 := h 3 (by omega)
  have a4 := h 4 (by omega); have a5 := h 5 (by omega); have a6 := h 6 (by omega); have a7 := h 7 (by omega)
  have e0 : (sgs.get! 0).toNat = 34 := rfl
  have e1 : (sgs.get! 1).toNat = 92 := rfl
  have e2 : (sgs.get! 2).toNat = 47 := rfl
  have e3 : (sgs.get! 3).toNat = 98 := rfl
  have e4 : (sgs.get! 4).toNat = 102 := rfl
  have e5 : (sgs.get! 5).toNat = 110 := rfl
  have e6 : (sgs.get! 6).toNat = 114 := rfl
  have e7 : (sgs.get! 7).toNat = 116 := rfl
  omega
def sgnE (s : ByteArray) (i : Nat) : Ending := .returned (.tuple #[.int .i32 (escR s i).1, .int .i64 (escR s i).2])
theorem sgnE_none (s : ByteArray) (i : Nat) (h : escR s i = (0, 0)) : sgnE s i = .returned (.tuple #[.int .i32 0, .int .i64 0]) := by unfold sgnE; rw [h]; rfl
theorem sgnE_some (s : ByteArray) (i r n : Nat) (z : Int) (h : escR s i = (r, n)) (hz : z = r) : sgnE s i = .returned (.tuple #[.int .i32 z, .int .i64 n]) := by unfold sgnE; rw [h, hz]
set_option maxHeartbeats 2000000 in
set_option maxRecDepth 100000 in
theorem sign_any (s : ByteArray) (hs : s.size ≤ 1048576) (i : Nat) (hi : i < s.size) (h92 : (s.get! i).toNat = 92) (w : World) : Calls Tryz.prog 67 #[.string s, .int .i64 i] w fun e w' => e = sgnE s i ∧ w = w' := by
  by_cases h2 : i + 2 ≤ s.size
  · have h2' : ¬ (s.size : Int) - 1 ≤ (i : Int) := by omega
    have hin : i + 1 < s.size := by omega
    have hg : (s.get! (i + 1)).toNat = s[i + 1].toNat := by rw [get_bang s (i + 1) hin]
    have HH := Lib.hid (fun k hk h => sg_hit s i k h2 hk h)
    have HG := Lib.hid hg
    have hc8 : s[i + 1].toNat < 256 := s[i + 1].toNat_lt
    clear hg
    go_enter Tryz.func67, Tryz.ntmps67
    go_wp2_with fail
    go_loop [9] (fun j => ∃ k : Nat, k ≤ 8 ∧ j = .int .i64 k ∧ NoSg s[i + 1].toNat k) (fun j => 8 - (intOf j).toNat)
    case atStart => exact ⟨0, by omega, rfl, fun j hj => by omega⟩
    case round =>
      obtain ⟨k, hk, rfl, hns⟩ := hrel
      have HNS := Lib.hid hns
      clear hns
      by_cases hlt : k < 8
      · by_cases hq : (sgs[k]'hlt).toNat = s[i + 1].toNat
        · have hx : escR s i = ((sts[k]'hlt).toNat, 2) := by
            have := HH.out k hlt (by rw [get_bang sgs k hlt, HG.out]; exact hq)
            rw [get_bang sts k hlt] at this; exact this
          have HX := Lib.hid (sgnE_some s i _ 2 ((sts[k]'hlt).toNat : Int) hx rfl)
          have hq' : ((({ data := #[34, 92, 47, 98, 102, 110, 114, 116] } : ByteArray)[k]'hlt).toNat : Int) == (s[i + 1].toNat : Int) := by
            have : (({ data := #[34, 92, 47, 98, 102, 110, 114, 116] } : ByteArray)[k]'hlt).toNat = s[i + 1].toNat := hq
            rw [this]; simp
          have hst : (({ data := #[34, 92, 47, 8, 12, 10, 13, 9] } : ByteArray)[k]'hlt).toNat < 256 := UInt8.toNat_lt _
          clear hq hx
          go_wp2_with fail
          go_ret2
          exact ⟨HX.out.symm, rfl⟩
        · have hq' : (((({ data := #[34, 92, 47, 98, 102, 110, 114, 116] } : ByteArray)[k]'hlt).toNat : Int) == (s[i + 1].toNat : Int)) = false := by
            have : ¬ (({ data := #[34, 92, 47, 98, 102, 110, 114, 116] } : ByteArray)[k]'hlt).toNat = s[i + 1].toNat := hq
            rw [beq_eq_false_iff_ne, ne_eq]; omega
          have HQ : Hid (NoSg s[i + 1].toNat (k + 1)) := fun j hj => by
            by_cases e : j = k
            · subst e; rw [get_bang sgs j hlt]; exact hq
            · exact HNS.out j (by omega)
          clear hq
          go_wp2_with fail
          exact ⟨⟨k + 1, by omega, by go_num, HQ.out⟩, by simp [intOf]; omega⟩
      · obtain rfl : k = 8 := by omega
        obtain ⟨n1, n2, n3, n4, n5, n6⟩ := noSg_all _ HNS.out
        have hr : escR s i = if s[i + 1].toNat = 117 then numR s i else (0, 0) := by
          unfold escR; rw [if_pos h2, HG.out, if_neg n1, if_neg n2, if_neg n3, if_neg n4, if_neg n5, if_neg n6]
        clear n1 n2 n3 n4 n5 n6
        by_cases c : s[i + 1].toNat = 117
        · have hnum : escR s i = numR s i := by rw [hr, if_pos c]
          have hU : isU s i = is4 s (i + 2) := by unfold isU; rw [h92, HG.out, c]; simp
          have k4 : ∀ W, Calls Tryz.prog 88 #[.string s, .int .i64 ((i : Int) + 2)] W fun e w' => e = .returned (.int .i64 (fourI s (i + 2))) ∧ W = w' := fun W => four_any s hs (i + 2) (by omega) W
          have K4 := Lib.hid k4
          have H92 := Lib.hid h92
          clear k4 hr
          cases hi4 : is4 s (i + 2)
          · have HN := Lib.hid (sgnE_none s i (by rw [hnum]; unfold numR; rw [hU, hi4]; exact if_neg (by decide)))
            have hF : fourI s (i + 2) = -1 := by unfold fourI; rw [hi4]; exact if_neg (by decide)
            rw [hF] at K4
            clear hnum hU hi4 hF h92
            go_wp2_with fail
            refine (K4.out _).mono ?_
            rintro e w' ⟨rfl, rfl⟩
            go_wp2_with fail
            go_ret2
            exact ⟨HN.out.symm, rfl⟩
          · have hv := v4_lt s (i + 2) hi4
            have hF : fourI s (i + 2) = (v4 s (i + 2) : Int) := by unfold fourI; rw [hi4]; exact if_pos rfl
            rw [hF] at K4
            have hn : escR s i = if v4 s (i + 2) < 55296 ∨ 57343 < v4 s (i + 2) then (v4 s (i + 2), 6) else if 56319 < v4 s (i + 2) then (0, 0) else if isU s (i + 6) then (if v4 s (i + 8) < 56320 ∨ 57343 < v4 s (i + 8) then (0, 0) else (65536 + (v4 s (i + 2) - 55296) * 1024 + (v4 s (i + 8) - 56320), 12)) else (0, 0) := by
              rw [hnum]; unfold numR; rw [hU, hi4]; exact if_pos rfl
            obtain ⟨z, hz⟩ : ∃ z : Int, z = (v4 s (i + 2) : Int) := ⟨_, rfl⟩
            rw [← hz] at K4
            have hz0 : 0 ≤ z := by omega
            have hz1 : z < 65536 := by omega
            clear hnum hU hF h92 hi4
            by_cases c1 : z < 55296
            · have HN := Lib.hid (sgnE_some s i (v4 s (i + 2)) 6 z (by rw [hn, if_pos (by omega)]) hz)
              clear hn hz hv
              go_wp2_with fail
              refine (K4.out _).mono ?_
              rintro e w' ⟨rfl, rfl⟩
              go_wp2_with fail
              go_ret2
              exact ⟨HN.out.symm, rfl⟩
            by_cases c2 : 57343 < z
            · have HN := Lib.hid (sgnE_some s i (v4 s (i + 2)) 6 z (by rw [hn, if_pos (by omega)]) hz)
              clear hn hz hv
              go_wp2_with fail
              refine (K4.out _).mono ?_
              rintro e w' ⟨rfl, rfl⟩
              go_wp2_with fail
              go_ret2
              exact ⟨HN.out.symm, rfl⟩
            by_cases c3 : 56319 < z
            · have HN := Lib.hid (sgnE_none s i (by rw [hn, if_neg (by omega), if_pos (by omega)]))
              clear hn hz hv
              go_wp2_with fail
              refine (K4.out _).mono ?_
              rintro e w' ⟨rfl, rfl⟩
              go_wp2_with fail
              go_ret2
              exact ⟨HN.out.symm, rfl⟩
            have hn2 : escR s i = if isU s (i + 6) then (if v4 s (i + 8) < 56320 ∨ 57343 < v4 s (i + 8) then (0, 0) else (65536 + (v4 s (i + 2) - 55296) * 1024 + (v4 s (i + 8) - 56320), 12)) else (0, 0) := by
              rw [hn, if_neg (by omega), if_neg (by omega)]
            clear hn
            by_cases c8 : i + 8 ≤ s.size
            · have c8' : ¬ (s.size : Int) - 7 ≤ (i : Int) := by omega
              have i6 : i + 6 < s.size := by omega
              have i7 : i + 7 < s.size := by omega
              have hU6 : isU s (i + 6) = (is4 s (i + 8) && (s[i + 6].toNat == 92) && (s[i + 7].toNat == 117)) := by
                show (is4 s (i + 8) && ((s.get! (i + 6)).toNat == 92) && ((s.get! (i + 7)).toNat == 117)) = _
                rw [get_bang s (i + 6) i6, get_bang s (i + 7) i7]
              by_cases e6 : s[i + 6].toNat = 92
              · by_cases e7 : s[i + 7].toNat = 117
                · have hU8 : isU s (i + 6) = is4 s (i + 8) := by rw [hU6, e6, e7]; simp
                  have k8 : ∀ W, Calls Tryz.prog 88 #[.string s, .int .i64 ((i : Int) + 8)] W fun e w' => e = .returned (.int .i64 (fourI s (i + 8))) ∧ W = w' := fun W => four_any s hs (i + 8) (by omega) W
                  have K8 := Lib.hid k8
                  clear k8 hU6
                  cases hi8 : is4 s (i + 8)
                  · have HN := Lib.hid (sgnE_none s i (by rw [hn2, hU8, hi8]; exact if_neg (by decide)))
                    have hF : fourI s (i + 8) = -1 := by unfold fourI; rw [hi8]; exact if_neg (by decide)
                    rw [hF] at K8
                    clear hn2 hz hv hF hi8 hU8
                    go_wp2_with fail
                    refine (K4.out _).mono ?_
                    rintro e w' ⟨rfl, rfl⟩
                    go_wp2_with fail
                    refine (K8.out _).mono ?_
                    rintro e w' ⟨rfl, rfl⟩
                    go_wp2_with fail
                    go_ret2
                    exact ⟨HN.out.symm, rfl⟩
                  · have hv8 := v4_lt s (i + 8) hi8
                    have hF : fourI s (i + 8) = (v4 s (i + 8) : Int) := by unfold fourI; rw [hi8]; exact if_pos rfl
                    rw [hF] at K8
                    have hn3 : escR s i = if v4 s (i + 8) < 56320 ∨ 57343 < v4 s (i + 8) then (0, 0) else (65536 + (v4 s (i + 2) - 55296) * 1024 + (v4 s (i + 8) - 56320), 12) := by
                      rw [hn2, hU8, hi8]; exact if_pos rfl
                    obtain ⟨y, hy⟩ : ∃ y : Int, y = (v4 s (i + 8) : Int) := ⟨_, rfl⟩
                    rw [← hy] at K8
                    have hy0 : 0 ≤ y := by omega
                    have hy1 : y < 65536 := by omega
                    clear hn2 hF hi8 hU8
                    by_cases d1 : y < 56320
                    · have HN := Lib.hid (sgnE_none s i (by rw [hn3, if_pos (by omega)]))
                      clear hn3 hz hv hy hv8
                      go_wp2_with fail
                      refine (K4.out _).mono ?_
                      rintro e w' ⟨rfl, rfl⟩
                      go_wp2_with fail
                      refine (K8.out _).mono ?_
                      rintro e w' ⟨rfl, rfl⟩
                      go_wp2_with fail
                      go_ret2
                      exact ⟨HN.out.symm, rfl⟩
                    by_cases d2 : 57343 < y
                    · have HN := Lib.hid (sgnE_none s i (by rw [hn3, if_pos (by omega)]))
                      clear hn3 hz hv hy hv8
                      go_wp2_with fail
                      refine (K4.out _).mono ?_
                      rintro e w' ⟨rfl, rfl⟩
                      go_wp2_with fail
                      refine (K8.out _).mono ?_
                      rintro e w' ⟨rfl, rfl⟩
                      go_wp2_with fail
                      go_ret2
                      exact ⟨HN.out.symm, rfl⟩
                    · have HN := Lib.hid (sgnE_some s i _ 12 (65536 + (z - 55296) * 1024 + y - 56320) (by rw [hn3, if_neg (by omega)]) (by omega))
                      clear hn3 hz hv hy hv8
                      go_wp2_with fail
                      refine (K4.out _).mono ?_
                      rintro e w' ⟨rfl, rfl⟩
                      go_wp2_with fail
                      refine (K8.out _).mono ?_
                      rintro e w' ⟨rfl, rfl⟩
                      go_wp2_with fail
                      go_ret2
                      exact ⟨HN.out.symm, rfl⟩
                · have HN := Lib.hid (sgnE_none s i (by rw [hn2, hU6, show (s[i + 7].toNat == 117) = false by simp [e7], Bool.and_false]; exact if_neg (by decide)))
                  have d7 : ((s[i + 7].toNat : Int) == 117) = false := by simp; omega
                  have f7 : ((s[i + 7].toNat : Int) != 117) = true := by simp; omega
                  have d6 : ((s[i + 6].toNat : Int) == 92) = true := by simp [e6]
                  have f6 : ((s[i + 6].toNat : Int) != 92) = false := by simp [e6]
                  clear hn2 hU6 hz hv e6 e7
                  go_wp2_with fail
                  refine (K4.out _).mono ?_
                  rintro e w' ⟨rfl, rfl⟩
                  go_wp2_with fail
                  go_ret2
                  exact ⟨HN.out.symm, rfl⟩
              · have HN := Lib.hid (sgnE_none s i (by rw [hn2, hU6, show (s[i + 6].toNat == 92) = false by simp [e6], Bool.and_false, Bool.false_and]; exact if_neg (by decide)))
                have d6 : ((s[i + 6].toNat : Int) == 92) = false := by simp; omega
                have f6 : ((s[i + 6].toNat : Int) != 92) = true := by simp; omega
                clear hn2 hU6 hz hv e6
                go_wp2_with fail
                refine (K4.out _).mono ?_
                rintro e w' ⟨rfl, rfl⟩
                go_wp2_with fail
                go_ret2
                exact ⟨HN.out.symm, rfl⟩
            · have c8' : (s.size : Int) - 7 ≤ (i : Int) := by omega
              have HN := Lib.hid (sgnE_none s i (by
                have : isU s (i + 6) = false := by
                  rw [Bool.eq_false_iff]; intro hh; exact c8 (by have := (isU_in s _ hh).1; omega)
                rw [hn2, this]; exact if_neg (by decide)))
              clear hn2 hz hv c8
              go_wp2_with fail
              refine (K4.out _).mono ?_
              rintro e w' ⟨rfl, rfl⟩
              go_wp2_with fail
              go_ret2
              exact ⟨HN.out.symm, rfl⟩
        · have HN := Lib.hid (sgnE_none s i (by rw [hr, if_neg c]))
          have d117 : ((s[i + 1].toNat : Int) == 117) = false := by simp; omega
          clear hr c h92
          go_wp2_with fail
          go_ret2
          exact ⟨HN.out.symm, rfl⟩
  · have h2' : (s.size : Int) - 1 ≤ (i : Int) := by omega
    have HN := Lib.hid (sgnE_none s i (by unfold escR; rw [if_neg h2]))
    clear h2
    go_enter Tryz.func67, Tryz.ntmps67
    go_wp2_with fail
    go_ret2
    exact ⟨HN.out.symm, rfl⟩
end Go.Proofs.YtejniiehfangkaaGreatDoor

/- The document's own Unquote, walked. -/
set_option linter.unusedVariables false
set_option linter.unusedSimpArgs false
namespace Go.Proofs.YtejniiehfangkaaGreatDoor
open Go.RowKit
theorem ext_rune (s : ByteArray) (i : Nat) (h : i < s.size) (hb : badAt s i = false) : s.extract i (i + (Utf8.decode s i).2) = ⟨(encL (Utf8.decode s i).1).toArray⟩ := by
  obtain ⟨_, he⟩ := enc_dec s i h hb
  have hlen : (encL (Utf8.decode s i).1).length = (Utf8.decode s i).2 := by
    have e := congrArg List.length he
    rw [List.length_append, List.length_drop, List.length_drop, ← Lib.size_eq] at e
    have := (dec_in s i h).2.1
    omega
  rw [Lib.extract_eq, show i + (Utf8.decode s i).2 - i = (Utf8.decode s i).2 by omega, he, ← hlen, List.take_left]
set_option maxHeartbeats 1000000 in
theorem unqR_none (s : ByteArray) (hs : s.size ≤ 1048576) (h : ¬ (0 < s.size ∧ (s.get! 0).toNat = 34)) (w : World) : Calls Tryz.prog 48 #[.string s] w fun e w' => e = unqE s ∧ Below w.heap.size w w' := by
  have HU := Lib.hid (unqE_is s [] 0 4 (by unfold unq; rw [if_neg h]))
  by_cases h0 : s.size = 0
  · have d0 : ((s.size : Int) == 0) = true := by simp [h0]
    clear h h0
    go_enter Tryz.func48, Tryz.ntmps48
    go_wp2_with fail
    go_ret3
    exact ⟨HU.out.symm, Below.refl _ _⟩
  · have d0 : ((s.size : Int) == 0) = false := beq_eq_false_iff_ne.2 (by omega)
    have h1 : 0 < s.size := by omega
    have hn : s[0].toNat ≠ 34 := fun e => h ⟨h1, by rw [get_bang s 0 h1]; exact e⟩
    have d34 : ((s[0].toNat : Int) == 34) = false := by simp; omega
    have f34 : ((s[0].toNat : Int) != 34) = true := by simp; omega
    clear h h0 hn
    go_enter Tryz.func48, Tryz.ntmps48
    go_wp2_with fail
    go_ret3
    exact ⟨HU.out.symm, Below.refl _ _⟩
set_option maxHeartbeats 2000000 in
set_option maxRecDepth 100000 in
theorem unqR_some (s : ByteArray) (hs : s.size ≤ 1048576) (h0 : 0 < s.size) (h34 : (s.get! 0).toNat = 34) (w : World) : Calls Tryz.prog 48 #[.string s] w fun e w' => e = unqE s ∧ Below w.heap.size w w' := by
  have HUN : Hid (unqF s (s.size + 1) 1 [] = unq s) := by unfold unq; rw [if_pos ⟨h0, h34⟩]; exact Lib.hid rfl
  have hg : s[0].toNat = 34 := by rw [get_bang s 0 h0] at h34; exact h34
  have d0 : ((s.size : Int) == 0) = false := beq_eq_false_iff_ne.2 (by omega)
  clear h34
  go_enter Tryz.func48, Tryz.ntmps48
  go_wp2_with fail
  clear hg d0
  go_loopw [5, 6] (fun v j wr => ∃ (k g : Nat) (o : List UInt8), k ≤ s.size ∧ j = .int .i64 k ∧ v = .string ⟨o.toArray⟩ ∧ o.length ≤ 4 * k ∧ unqF s g k o = unq s ∧ s.size < k + g ∧ Below w.heap.size w wr) (fun _ j _ => s.size - (intOf j).toNat)
  case atStart => exact ⟨1, s.size + 1, [], by omega, rfl, rfl, by simp, HUN.out, by omega, Below.refl _ _⟩
  case round =>
    obtain ⟨k, g, o, hk, rfl, rfl, hl, hu, hg, hb⟩ := hrel
    have HU := Lib.hid hu
    clear hu
    by_cases hp : k < s.size
    · have hgb : (s.get! k).toNat = s[k].toNat := by rw [get_bang s k hp]
      have HG := Lib.hid hgb
      clear hgb
      by_cases c34 : s[k].toNat = 34
      · have HX : Hid (unqE s = .returned (.tuple #[.string ⟨o.toArray⟩, .int .i64 ((k : Int) + 1), .int .i64 0])) := by
          have := unqE_is s o (k + 1) 0 (by rw [← HU.out]; exact unqF_close s g k o hp hg (by rw [HG.out]; exact c34))
          rw [Int.natCast_add] at this
          exact this
        go_wp2_with fail
        go_ret3
        exact ⟨HX.out.symm, hb⟩
      have d34 : ((s[k].toNat : Int) == 34) = false := by simp; omega
      by_cases c32 : s[k].toNat < 32
      · have HX := Lib.hid (unqE_is s [] k 4 (by rw [← HU.out]; exact unqF_low s g k o hp hg (by rw [HG.out]; exact c32)))
        clear c34
        go_wp2_with fail
        go_ret3
        exact ⟨HX.out.symm, hb⟩
      by_cases c92 : s[k].toNat = 92
      · have H92 : Hid ((s.get! k).toNat = 92) := by rw [HG.out]; exact c92
        have hsg := fun W => sign_any s hs k hp H92.out W
        unfold sgnE at hsg
        clear c34 c32
        by_cases he : (escR s k).2 = 0
        · have HX := Lib.hid (unqE_is s [] k 4 (by rw [← HU.out]; exact unqF_noesc s g k o hp hg H92.out he))
          generalize (escR s k).1 = R at *
          generalize (escR s k).2 = S at *
          subst he
          have HSG := Lib.hid hsg
          clear hsg
          go_wp2_with fail
          refine (HSG.out _).mono ?_
          rintro e w' ⟨rfl, rfl⟩
          go_wp2_with fail
          go_ret3
          exact ⟨HX.out.symm, hb⟩
        · obtain ⟨g', e1, e2⟩ := unqF_esc s g k o hp hg H92.out he
          obtain ⟨k1, k2, k3, k4, k5⟩ := (escR_ok s k).resolve_left he
          have hrn := fun W => rune_yes ((escR s k).1 : Int) k5 W
          simp only [Int.toNat_natCast] at hrn
          have hel := encL_len (escR s k).1
          have E1 := Lib.hid e1
          clear k4 k5 e1
          generalize encL (escR s k).1 = E at *
          generalize (escR s k).1 = R at *
          generalize (escR s k).2 = S at *
          have HSG := Lib.hid hsg
          have HRN := Lib.hid hrn
          have hSz : ((S : Int) == 0) = false := beq_eq_false_iff_ne.2 (by omega)
          obtain ⟨hel1, hel4⟩ := hel
          clear hsg hrn he
          go_wp2_with fail
          refine (HSG.out _).mono ?_
          rintro e w' ⟨rfl, rfl⟩
          go_wp2_with fail
          refine (HRN.out _).mono ?_
          rintro e w2 ⟨rfl, hb2⟩
          go_wp2_with fail
          exact ⟨⟨k + S, g', o ++ E, k3, by go_num, congrArg Value.string (mk_app o E), by rw [List.length_append]; omega, by rw [← E1.out]; exact HU.out, e2, hb.trans (hb2.mono hb.size)⟩, by simp [intOf]; omega⟩
      have d92 : ((s[k].toNat : Int) == 92) = false := by simp; omega
      cases hba : badAt s k
      · have hd := dec_in s k hp
        obtain ⟨g', e1, e2⟩ := unqF_rune s g k o hp hg hba (by rw [HG.out]; exact c34) (by rw [HG.out]; exact c32) (by rw [HG.out]; exact c92)
        have hsz := fun W => size_is_ok s (by omega) k hp hba W
        have hex := ext_rune s k hp hba
        have hel := encL_len (Utf8.decode s k).1
        have E1 := Lib.hid e1
        have hd1 := hd.1
        have hd2 := hd.2.1
        clear e1 hd hba c34 c92
        generalize encL (Utf8.decode s k).1 = E at *
        generalize (Utf8.decode s k).1 = R at *
        generalize (Utf8.decode s k).2 = S at *
        have HSZ := Lib.hid hsz
        have HEX := Lib.hid hex
        have hSz : ((S : Int) == 0) = false := beq_eq_false_iff_ne.2 (by omega)
        obtain ⟨hel1, hel4⟩ := hel
        clear hsz hex
        go_wp2_with fail
        refine (HSZ.out _).mono ?_
        rintro e w' ⟨rfl, rfl⟩
        go_wp2_with fail
        exact ⟨⟨k + S, g', o ++ E, hd2, by go_num, congrArg Value.string (by rw [HEX.out]; exact mk_app o E), by rw [List.length_append]; omega, by rw [← E1.out]; exact HU.out, e2, hb⟩, by simp [intOf]; omega⟩
      · have HX := Lib.hid (unqE_is s [] k 2 (by rw [← HU.out]; exact unqF_bad s g k o hp hg hba))
        have HSZ := Lib.hid (fun W => size_is_bad s (by omega) k hp hba W)
        clear hba c34 c92
        go_wp2_with fail
        refine (HSZ.out _).mono ?_
        rintro e w' ⟨rfl, rfl⟩
        go_wp2_with fail
        go_ret3
        exact ⟨HX.out.symm, hb⟩
    · have HX := Lib.hid (unqE_is s [] s.size 4 (by rw [← HU.out, unqF_end s g k o hp]))
      go_wp2_with fail
      go_ret3
      exact ⟨HX.out.symm, hb⟩
end Go.Proofs.YtejniiehfangkaaGreatDoor

/- The document's own next token. -/
set_option linter.unusedVariables false
set_option linter.unusedSimpArgs false
namespace Go.Proofs.YtejniiehfangkaaGreatDoor
open Go.RowKit
abbrev SG : ByteArray := ⟨#[33, 36, 38, 40, 41, 58, 61, 64, 91, 93, 123, 124, 125]⟩
theorem sg_in (i : Nat) (h : i < 13) : sgB (SG.get! i) = true := by
  have : ∀ i : Fin 13, sgB (SG.get! i.val) = true := by decide
  exact this ⟨i, h⟩
theorem sg_has (c : UInt8) (h : sgB c = true) : ∃ i, i < 13 ∧ SG.get! i = c := by
  have key : ∀ z : Fin 256, sgB (UInt8.ofNat z.val) = true → ∃ i : Fin 13, SG.get! i.val = UInt8.ofNat z.val := by decide +kernel
  have hz : UInt8.ofNat c.toNat = c := UInt8.ofNat_toNat
  obtain ⟨i, hi⟩ := key ⟨c.toNat, UInt8.toNat_lt _⟩ (by rw [hz]; exact h)
  exact ⟨i.val, i.isLt, by rw [hi]; exact hz⟩
theorem sg_at (i : Nat) (h : i < 13) : SG.get! i = SG[i]'h := get_bang SG i h
theorem one_shape {F : Fst} {a : Nat} {e : Ending} (h : OneR F a e) : ∃ (k : Int) (t : ByteArray) (p b er : Int), e = .returned (.agg #[.int .i64 k, .string t, .int .i64 p, .int .i64 b, .int .i64 er]) := by
  cases F with
  | ok k s m => exact ⟨_, _, _, _, _, h⟩
  | no b => exact ⟨_, _, _, _, _, h⟩
set_option maxHeartbeats 2000000 in
set_option maxRecDepth 100000 in
theorem next_sign (s : ByteArray) (a : Nat) (ha : a < s.size) (hs : s.size ≤ 1000000) (hc : sgB (s.get! a) = true) (G : Fst) (hG : G = .ok 1 [s.get! a] 1) (w : World) : Calls Tryz.prog 25 #[.string s, .int .i64 (a : Nat)] w fun e w' => OneR G a e ∧ Below w.heap.size w w' := by
  have HR := Lib.hid (row5 (heap_alloc_new w zO))
  have HB0 := Lib.hid ((Below.refl w.heap.size w).alloc (Nat.le_refl _) zO)
  have hga := get_bang s a ha
  have HC := Lib.hid hc
  have HG := Lib.hid hG
  have HGA := Lib.hid hga
  clear hc hG hga
  go_enter Tryz.func25, Tryz.ntmps25
  go_wp2_with fail
  generalize w.alloc zO = w0 at HR HB0 ⊢
  go_loopw [7] (fun v wr => ∃ i : Nat, v = .int .i64 (i : Nat) ∧ i ≤ 13 ∧ (∀ j, j < i → SG.get! j ≠ s.get! a) ∧ w0 = wr) (fun v _ => 13 - (intOf v).toNat)
  case atStart => exact ⟨0, rfl, Nat.zero_le _, fun j hj => by omega, rfl⟩
  case round =>
    obtain ⟨i, rfl, hi, hno, rfl⟩ := hrel
    have HNO := Lib.hid hno
    clear hno
    by_cases hlt : i < 13
    · have hlt' : i < SG.size := hlt
      by_cases he : SG.get! i = s.get! a
      · have e1 : (((SG[i]'hlt').toNat : Int) == ((s[a]'ha).toNat : Int)) = true := by rw [← sg_at i hlt, he, HGA.out]; simp
        have hE : SG.extract i (i + 1) = ⟨[s.get! a].toArray⟩ := by
          refine ByteArray.ext (Array.toList_inj.1 ?_)
          rw [Lib.extract_data, show i + 1 - i = 1 by omega, drop_cons SG i hlt, he]
          rfl
        have HE := Lib.hid hE
        clear he hE
        have z0 := HR.out.cell (show 0 < 5 by decide)
        have z1 := HR.out.cell (show 1 < 5 by decide)
        have z2 := HR.out.cell (show 2 < 5 by decide)
        have z3 := HR.out.cell (show 3 < 5 by decide)
        have z4 := HR.out.cell (show 4 < 5 by decide)
        have g0 := HR.out.frozen 0
        have g1 := HR.out.frozen 1
        have g2 := HR.out.frozen 2
        have g3 := HR.out.frozen 3
        have g4 := HR.out.frozen 4
        simp only [o5, List.getD_cons_succ, List.getD_cons_zero] at z0 z1 z2 z3 z4
        go_wp2_with fail
        refine bodyPost_ret (v := .agg #[.int .i64 1, .string (SG.extract i (i + 1)), .int .i64 a, .int .i64 ((a : Int) + 1), .int .i64 0]) (by simp [results, Tryz.results25, go_sem, z0, z1, z2, z3, z4]; try rfl) rfl ?_
        refine ⟨?_, resO_below HB0.out (Nat.le_refl _)⟩
        rw [HG.out, HE.out]
        show _ = Ending.returned (.agg #[.int .i64 1, .string ⟨[s.get! a].toArray⟩, .int .i64 (a : Nat), .int .i64 ((a + 1 : Nat) : Int), .int .i64 0])
        rw [Int.natCast_add]
        rfl
      · have e1 : (((SG[i]'hlt').toNat : Int) == ((s[a]'ha).toNat : Int)) = false := by
          rw [← sg_at i hlt, ← HGA.out, beq_eq_false_iff_ne]
          intro h
          exact he (UInt8.toNat_inj.1 (by omega))
        have HN : Hid (∀ j, j < i + 1 → SG.get! j ≠ s.get! a) := Lib.hid (fun j hj => by
          by_cases e : j = i
          · subst e; exact he
          · exact HNO.out j (by omega))
        clear he
        go_wp2_with fail
        exact ⟨⟨i + 1, by go_num, by omega, HN.out, by first | rfl | trivial⟩, by simp [intOf]; omega⟩
    · exfalso
      obtain ⟨j, hj, he⟩ := sg_has _ HC.out
      exact HNO.out j (by omega) he
set_option maxHeartbeats 4000000 in
set_option maxRecDepth 100000 in
theorem next_p (s : ByteArray) (a : Nat) (ha : a < s.size) (hs : s.size ≤ 1000000) (hc : sgB (s.get! a) = false) (hp : ([46, 46, 46] : List UInt8).isPrefixOf (s.data.toList.drop a) = true) (G : Fst) (hG : G = .ok 1 [46, 46, 46] 3) (w : World) : Calls Tryz.prog 25 #[.string s, .int .i64 (a : Nat)] w fun e w' => OneR G a e ∧ Below w.heap.size w w' := by
  have HR := Lib.hid (row5 (heap_alloc_new w zO))
  have HB0 := Lib.hid ((Below.refl w.heap.size w).alloc (Nat.le_refl _) zO)
  have HS0 := Lib.hid (show (w.alloc zO).heap.size = w.heap.size + 1 by simp)
  have hga := get_bang s a ha
  have HNE : Hid (∀ i, i < 13 → (h : i < SG.size) → (((SG[i]'h).toNat : Int) == ((s[a]'ha).toNat : Int)) = false) := Lib.hid (fun i hi h => by
    have h1 := sg_in i hi
    rw [← sg_at i hi, ← hga, beq_eq_false_iff_ne]
    intro e
    have : SG.get! i = s.get! a := UInt8.toNat_inj.1 (by omega)
    rw [this, hc] at h1
    cases h1)
  have HGA := Lib.hid hga
  have HG := Lib.hid hG
  clear hG
  have KP : Hid (∀ W, Calls Tryz.prog 42 #[.string s, .int .i64 (a : Nat), .string ⟨#[46, 46, 46]⟩] W fun e w' => e = .returned (.bool true) ∧ W = w') := Lib.hid (fun W => begins_ref s ⟨#[46, 46, 46]⟩ a (by omega) hs (by decide) _ hp W)
  clear hp
  clear hc hga
  go_enter Tryz.func25, Tryz.ntmps25
  go_wp2_with fail
  generalize w.alloc zO = w0 at HR HB0 HS0 ⊢
  go_loopw [7] (fun v wr => ∃ i : Nat, v = .int .i64 (i : Nat) ∧ i ≤ 13 ∧ w0 = wr) (fun v _ => 13 - (intOf v).toNat)
  case atStart => exact ⟨0, rfl, Nat.zero_le _, rfl⟩
  case round =>
    obtain ⟨i, rfl, hi, rfl⟩ := hrel
    by_cases hlt : i < 13
    · have hlt' : i < SG.size := hlt
      have e1 := HNE.out i hlt hlt'
      go_wp2_with fail
      exact ⟨⟨i + 1, by go_num, by omega, by first | rfl | trivial⟩, by simp [intOf]; omega⟩
    · obtain rfl : i = 13 := by omega
      have z0 := HR.out.cell (show 0 < 5 by decide)
      have z1 := HR.out.cell (show 1 < 5 by decide)
      have z2 := HR.out.cell (show 2 < 5 by decide)
      have z3 := HR.out.cell (show 3 < 5 by decide)
      have z4 := HR.out.cell (show 4 < 5 by decide)
      have g0 := HR.out.frozen 0
      have g1 := HR.out.frozen 1
      have g2 := HR.out.frozen 2
      have g3 := HR.out.frozen 3
      have g4 := HR.out.frozen 4
      simp only [o5, List.getD_cons_succ, List.getD_cons_zero] at z0 z1 z2 z3 z4
      go_wp2_with fail
      refine (KP.out w0).mono ?_
      rintro e w1 ⟨rfl, rfl⟩
      go_wp2_with fail
      refine bodyPost_ret (v := .agg #[.int .i64 1, .string ⟨#[46, 46, 46]⟩, .int .i64 a, .int .i64 ((a : Int) + 3), .int .i64 0]) (by simp [results, Tryz.results25, go_sem, z0, z1, z2, z3, z4]; try rfl) rfl ?_
      refine ⟨?_, resO_below HB0.out (Nat.le_refl _)⟩
      rw [HG.out]
      show _ = Ending.returned (.agg #[.int .i64 1, .string ⟨[46, 46, 46].toArray⟩, .int .i64 (a : Nat), .int .i64 ((a + 3 : Nat) : Int), .int .i64 0])
      rw [Int.natCast_add]
      rfl
set_option maxHeartbeats 4000000 in
set_option maxRecDepth 100000 in
theorem next_m (s : ByteArray) (a : Nat) (ha : a < s.size) (hs : s.size ≤ 1000000) (hc : sgB (s.get! a) = false) (hp : ([46, 46, 46] : List UInt8).isPrefixOf (s.data.toList.drop a) = false) (h45 : (((s[a]'ha).toNat : Int) == 45) = true) (hl : isL ((s[a]'ha).toNat : Int) = false) (G : Fst) (hG : numX (s.data.toList.drop a) = G) (w : World) : Calls Tryz.prog 25 #[.string s, .int .i64 (a : Nat)] w fun e w' => OneR G a e ∧ Below w.heap.size w w' := by
  have HR := Lib.hid (row5 (heap_alloc_new w zO))
  have HB0 := Lib.hid ((Below.refl w.heap.size w).alloc (Nat.le_refl _) zO)
  have HS0 := Lib.hid (show (w.alloc zO).heap.size = w.heap.size + 1 by simp)
  have hga := get_bang s a ha
  have HNE : Hid (∀ i, i < 13 → (h : i < SG.size) → (((SG[i]'h).toNat : Int) == ((s[a]'ha).toNat : Int)) = false) := Lib.hid (fun i hi h => by
    have h1 := sg_in i hi
    rw [← sg_at i hi, ← hga, beq_eq_false_iff_ne]
    intro e
    have : SG.get! i = s.get! a := UInt8.toNat_inj.1 (by omega)
    rw [this, hc] at h1
    cases h1)
  have HGA := Lib.hid hga
  have KP : Hid (∀ W, Calls Tryz.prog 42 #[.string s, .int .i64 (a : Nat), .string ⟨#[46, 46, 46]⟩] W fun e w' => e = .returned (.bool false) ∧ W = w') := Lib.hid (fun W => begins_ref s ⟨#[46, 46, 46]⟩ a (by omega) hs (by decide) _ hp W)
  clear hp
  have KL : Hid (∀ W, Calls Tryz.prog 43 #[.int .u8 (s[a]'ha).toNat] W fun e w' => e = .returned (.bool false) ∧ W = w') := Lib.hid (fun W => (letter_ref _ W).mono (by rintro e w' ⟨rfl, rfl⟩; exact ⟨ret_bool hl, rfl⟩))
  clear hl
  have KN : Hid (∀ W, Calls Tryz.prog 45 #[.string s, .int .i64 (a : Nat)] W fun e w' => OneR G a e ∧ Below W.heap.size W w') := Lib.hid (fun W => number_ref1 s a ha hs h45 G hG W)
  clear hG
  clear hc hga
  go_enter Tryz.func25, Tryz.ntmps25
  go_wp2_with fail
  generalize w.alloc zO = w0 at HR HB0 HS0 ⊢
  go_loopw [7] (fun v wr => ∃ i : Nat, v = .int .i64 (i : Nat) ∧ i ≤ 13 ∧ w0 = wr) (fun v _ => 13 - (intOf v).toNat)
  case atStart => exact ⟨0, rfl, Nat.zero_le _, rfl⟩
  case round =>
    obtain ⟨i, rfl, hi, rfl⟩ := hrel
    by_cases hlt : i < 13
    · have hlt' : i < SG.size := hlt
      have e1 := HNE.out i hlt hlt'
      go_wp2_with fail
      exact ⟨⟨i + 1, by go_num, by omega, by first | rfl | trivial⟩, by simp [intOf]; omega⟩
    · obtain rfl : i = 13 := by omega
      go_wp2_with fail
      refine (KP.out w0).mono ?_
      rintro e w1 ⟨rfl, rfl⟩
      go_wp2_with fail
      refine (KL.out w0).mono ?_
      rintro e w1 ⟨rfl, rfl⟩
      go_wp2_with fail
      refine (KN.out w0).mono ?_
      rintro e w9 ⟨hF, hb9⟩
      obtain ⟨k, t, p, b, er, rfl⟩ := one_shape hF
      have HF := Lib.hid hF
      have HR9 := Lib.hid (row_blk HR.out (hb9.block _ (show w.heap.size < w0.heap.size by rw [HS0.out]; omega)))
      have HB9 := Lib.hid (HB0.out.trans (hb9.mono (by rw [HS0.out]; omega)))
      clear hF hb9
      have z0 := HR9.out.cell (show 0 < 5 by decide)
      have z1 := HR9.out.cell (show 1 < 5 by decide)
      have z2 := HR9.out.cell (show 2 < 5 by decide)
      have z3 := HR9.out.cell (show 3 < 5 by decide)
      have z4 := HR9.out.cell (show 4 < 5 by decide)
      have g0 := HR9.out.frozen 0
      have g1 := HR9.out.frozen 1
      have g2 := HR9.out.frozen 2
      have g3 := HR9.out.frozen 3
      have g4 := HR9.out.frozen 4
      simp only [o5, List.getD_cons_succ, List.getD_cons_zero] at z0 z1 z2 z3 z4
      go_wp2_with fail
      refine bodyPost_ret (v := .agg #[.int .i64 k, .string t, .int .i64 p, .int .i64 b, .int .i64 er]) (by simp [results, Tryz.results25, go_sem, z0, z1, z2, z3, z4]; try rfl) rfl ?_
      exact ⟨HF.out, resO_below HB9.out (Nat.le_refl _)⟩
set_option maxHeartbeats 4000000 in
set_option maxRecDepth 100000 in
theorem next_d (s : ByteArray) (a : Nat) (ha : a < s.size) (hs : s.size ≤ 1000000) (hc : sgB (s.get! a) = false) (hp : ([46, 46, 46] : List UInt8).isPrefixOf (s.data.toList.drop a) = false) (h45 : (((s[a]'ha).toNat : Int) == 45) = false) (hl : isL ((s[a]'ha).toNat : Int) = false) (hd : isD ((s[a]'ha).toNat : Int) = true) (G : Fst) (hG : numX (s.data.toList.drop a) = G) (w : World) : Calls Tryz.prog 25 #[.string s, .int .i64 (a : Nat)] w fun e w' => OneR G a e ∧ Below w.heap.size w w' := by
  have HR := Lib.hid (row5 (heap_alloc_new w zO))
  have HB0 := Lib.hid ((Below.refl w.heap.size w).alloc (Nat.le_refl _) zO)
  have HS0 := Lib.hid (show (w.alloc zO).heap.size = w.heap.size + 1 by simp)
  have hga := get_bang s a ha
  have HNE : Hid (∀ i, i < 13 → (h : i < SG.size) → (((SG[i]'h).toNat : Int) == ((s[a]'ha).toNat : Int)) = false) := Lib.hid (fun i hi h => by
    have h1 := sg_in i hi
    rw [← sg_at i hi, ← hga, beq_eq_false_iff_ne]
    intro e
    have : SG.get! i = s.get! a := UInt8.toNat_inj.1 (by omega)
    rw [this, hc] at h1
    cases h1)
  have HGA := Lib.hid hga
  have KP : Hid (∀ W, Calls Tryz.prog 42 #[.string s, .int .i64 (a : Nat), .string ⟨#[46, 46, 46]⟩] W fun e w' => e = .returned (.bool false) ∧ W = w') := Lib.hid (fun W => begins_ref s ⟨#[46, 46, 46]⟩ a (by omega) hs (by decide) _ hp W)
  clear hp
  have KL : Hid (∀ W, Calls Tryz.prog 43 #[.int .u8 (s[a]'ha).toNat] W fun e w' => e = .returned (.bool false) ∧ W = w') := Lib.hid (fun W => (letter_ref _ W).mono (by rintro e w' ⟨rfl, rfl⟩; exact ⟨ret_bool hl, rfl⟩))
  clear hl
  have KD : Hid (∀ W, Calls Tryz.prog 44 #[.int .u8 (s[a]'ha).toNat] W fun e w' => e = .returned (.bool true) ∧ W = w') := Lib.hid (fun W => (digit_ref _ W).mono (by rintro e w' ⟨rfl, rfl⟩; exact ⟨ret_bool hd, rfl⟩))
  clear hd
  have KN : Hid (∀ W, Calls Tryz.prog 45 #[.string s, .int .i64 (a : Nat)] W fun e w' => OneR G a e ∧ Below W.heap.size W w') := Lib.hid (fun W => number_ref0 s a ha hs h45 G hG W)
  clear hG
  clear hc hga
  go_enter Tryz.func25, Tryz.ntmps25
  go_wp2_with fail
  generalize w.alloc zO = w0 at HR HB0 HS0 ⊢
  go_loopw [7] (fun v wr => ∃ i : Nat, v = .int .i64 (i : Nat) ∧ i ≤ 13 ∧ w0 = wr) (fun v _ => 13 - (intOf v).toNat)
  case atStart => exact ⟨0, rfl, Nat.zero_le _, rfl⟩
  case round =>
    obtain ⟨i, rfl, hi, rfl⟩ := hrel
    by_cases hlt : i < 13
    · have hlt' : i < SG.size := hlt
      have e1 := HNE.out i hlt hlt'
      go_wp2_with fail
      exact ⟨⟨i + 1, by go_num, by omega, by first | rfl | trivial⟩, by simp [intOf]; omega⟩
    · obtain rfl : i = 13 := by omega
      go_wp2_with fail
      refine (KP.out w0).mono ?_
      rintro e w1 ⟨rfl, rfl⟩
      go_wp2_with fail
      refine (KL.out w0).mono ?_
      rintro e w1 ⟨rfl, rfl⟩
      go_wp2_with fail
      refine (KD.out w0).mono ?_
      rintro e w1 ⟨rfl, rfl⟩
      go_wp2_with fail
      refine (KN.out w0).mono ?_
      rintro e w9 ⟨hF, hb9⟩
      obtain ⟨k, t, p, b, er, rfl⟩ := one_shape hF
      have HF := Lib.hid hF
      have HR9 := Lib.hid (row_blk HR.out (hb9.block _ (show w.heap.size < w0.heap.size by rw [HS0.out]; omega)))
      have HB9 := Lib.hid (HB0.out.trans (hb9.mono (by rw [HS0.out]; omega)))
      clear hF hb9
      have z0 := HR9.out.cell (show 0 < 5 by decide)
      have z1 := HR9.out.cell (show 1 < 5 by decide)
      have z2 := HR9.out.cell (show 2 < 5 by decide)
      have z3 := HR9.out.cell (show 3 < 5 by decide)
      have z4 := HR9.out.cell (show 4 < 5 by decide)
      have g0 := HR9.out.frozen 0
      have g1 := HR9.out.frozen 1
      have g2 := HR9.out.frozen 2
      have g3 := HR9.out.frozen 3
      have g4 := HR9.out.frozen 4
      simp only [o5, List.getD_cons_succ, List.getD_cons_zero] at z0 z1 z2 z3 z4
      go_wp2_with fail
      refine bodyPost_ret (v := .agg #[.int .i64 k, .string t, .int .i64 p, .int .i64 b, .int .i64 er]) (by simp [results, Tryz.results25, go_sem, z0, z1, z2, z3, z4]; try rfl) rfl ?_
      exact ⟨HF.out, resO_below HB9.out (Nat.le_refl _)⟩
set_option maxHeartbeats 4000000 in
set_option maxRecDepth 100000 in
theorem next_r (s : ByteArray) (a : Nat) (ha : a < s.size) (hs : s.size ≤ 1000000) (hc : sgB (s.get! a) = false) (hp : ([46, 46, 46] : List UInt8).isPrefixOf (s.data.toList.drop a) = false) (h45 : (((s[a]'ha).toNat : Int) == 45) = false) (hl : isL ((s[a]'ha).toNat : Int) = false) (hd : isD ((s[a]'ha).toNat : Int) = false) (hw : rw3 (s.data.toList.drop a) = true) (G : Fst) (hG : rawL (s.data.toList.drop a) = G) (w : World) : Calls Tryz.prog 25 #[.string s, .int .i64 (a : Nat)] w fun e w' => OneR G a e ∧ Below w.heap.size w w' := by
  have HR := Lib.hid (row5 (heap_alloc_new w zO))
  have HB0 := Lib.hid ((Below.refl w.heap.size w).alloc (Nat.le_refl _) zO)
  have HS0 := Lib.hid (show (w.alloc zO).heap.size = w.heap.size + 1 by simp)
  have hga := get_bang s a ha
  have HNE : Hid (∀ i, i < 13 → (h : i < SG.size) → (((SG[i]'h).toNat : Int) == ((s[a]'ha).toNat : Int)) = false) := Lib.hid (fun i hi h => by
    have h1 := sg_in i hi
    rw [← sg_at i hi, ← hga, beq_eq_false_iff_ne]
    intro e
    have : SG.get! i = s.get! a := UInt8.toNat_inj.1 (by omega)
    rw [this, hc] at h1
    cases h1)
  have HGA := Lib.hid hga
  have KP : Hid (∀ W, Calls Tryz.prog 42 #[.string s, .int .i64 (a : Nat), .string ⟨#[46, 46, 46]⟩] W fun e w' => e = .returned (.bool false) ∧ W = w') := Lib.hid (fun W => begins_ref s ⟨#[46, 46, 46]⟩ a (by omega) hs (by decide) _ hp W)
  clear hp
  have KL : Hid (∀ W, Calls Tryz.prog 43 #[.int .u8 (s[a]'ha).toNat] W fun e w' => e = .returned (.bool false) ∧ W = w') := Lib.hid (fun W => (letter_ref _ W).mono (by rintro e w' ⟨rfl, rfl⟩; exact ⟨ret_bool hl, rfl⟩))
  clear hl
  have KD : Hid (∀ W, Calls Tryz.prog 44 #[.int .u8 (s[a]'ha).toNat] W fun e w' => e = .returned (.bool false) ∧ W = w') := Lib.hid (fun W => (digit_ref _ W).mono (by rintro e w' ⟨rfl, rfl⟩; exact ⟨ret_bool hd, rfl⟩))
  clear hd
  have KRR : Hid (∀ W, Calls Tryz.prog 46 #[.string s, .int .i64 (a : Nat)] W fun e w' => OneR G a e ∧ Below W.heap.size W w') := Lib.hid (fun W => raw_ref s a hw hs G hG W)
  clear hG
  have KW : Hid (∀ W, Calls Tryz.prog 42 #[.string s, .int .i64 (a : Nat), .string ⟨#[34, 34, 34]⟩] W fun e w' => e = .returned (.bool true) ∧ W = w') := Lib.hid (fun W => begins_ref s ⟨#[34, 34, 34]⟩ a (by omega) hs (by decide) _ hw W)
  clear hw
  clear hc hga
  go_enter Tryz.func25, Tryz.ntmps25
  go_wp2_with fail
  generalize w.alloc zO = w0 at HR HB0 HS0 ⊢
  go_loopw [7] (fun v wr => ∃ i : Nat, v = .int .i64 (i : Nat) ∧ i ≤ 13 ∧ w0 = wr) (fun v _ => 13 - (intOf v).toNat)
  case atStart => exact ⟨0, rfl, Nat.zero_le _, rfl⟩
  case round =>
    obtain ⟨i, rfl, hi, rfl⟩ := hrel
    by_cases hlt : i < 13
    · have hlt' : i < SG.size := hlt
      have e1 := HNE.out i hlt hlt'
      go_wp2_with fail
      exact ⟨⟨i + 1, by go_num, by omega, by first | rfl | trivial⟩, by simp [intOf]; omega⟩
    · obtain rfl : i = 13 := by omega
      go_wp2_with fail
      refine (KP.out w0).mono ?_
      rintro e w1 ⟨rfl, rfl⟩
      go_wp2_with fail
      refine (KL.out w0).mono ?_
      rintro e w1 ⟨rfl, rfl⟩
      go_wp2_with fail
      refine (KD.out w0).mono ?_
      rintro e w1 ⟨rfl, rfl⟩
      go_wp2_with fail
      refine (KW.out w0).mono ?_
      rintro e w1 ⟨rfl, rfl⟩
      go_wp2_with fail
      refine (KRR.out w0).mono ?_
      rintro e w9 ⟨hF, hb9⟩
      obtain ⟨k, t, p, b, er, rfl⟩ := one_shape hF
      have HF := Lib.hid hF
      have HR9 := Lib.hid (row_blk HR.out (hb9.block _ (show w.heap.size < w0.heap.size by rw [HS0.out]; omega)))
      have HB9 := Lib.hid (HB0.out.trans (hb9.mono (by rw [HS0.out]; omega)))
      clear hF hb9
      have z0 := HR9.out.cell (show 0 < 5 by decide)
      have z1 := HR9.out.cell (show 1 < 5 by decide)
      have z2 := HR9.out.cell (show 2 < 5 by decide)
      have z3 := HR9.out.cell (show 3 < 5 by decide)
      have z4 := HR9.out.cell (show 4 < 5 by decide)
      have g0 := HR9.out.frozen 0
      have g1 := HR9.out.frozen 1
      have g2 := HR9.out.frozen 2
      have g3 := HR9.out.frozen 3
      have g4 := HR9.out.frozen 4
      simp only [o5, List.getD_cons_succ, List.getD_cons_zero] at z0 z1 z2 z3 z4
      go_wp2_with fail
      refine bodyPost_ret (v := .agg #[.int .i64 k, .string t, .int .i64 p, .int .i64 b, .int .i64 er]) (by simp [results, Tryz.results25, go_sem, z0, z1, z2, z3, z4]; try rfl) rfl ?_
      exact ⟨HF.out, resO_below HB9.out (Nat.le_refl _)⟩
set_option maxHeartbeats 4000000 in
set_option maxRecDepth 100000 in
theorem next_w (s : ByteArray) (a : Nat) (ha : a < s.size) (hs : s.size ≤ 1000000) (hc : sgB (s.get! a) = false) (hp : ([46, 46, 46] : List UInt8).isPrefixOf (s.data.toList.drop a) = false) (h45 : (((s[a]'ha).toNat : Int) == 45) = false) (hl : isL ((s[a]'ha).toNat : Int) = false) (hd : isD ((s[a]'ha).toNat : Int) = false) (hw : rw3 (s.data.toList.drop a) = false) (h34 : (((s[a]'ha).toNat : Int) != 34) = true) (G : Fst) (hG : G = .no 0) (w : World) : Calls Tryz.prog 25 #[.string s, .int .i64 (a : Nat)] w fun e w' => OneR G a e ∧ Below w.heap.size w w' := by
  have HR := Lib.hid (row5 (heap_alloc_new w zO))
  have HB0 := Lib.hid ((Below.refl w.heap.size w).alloc (Nat.le_refl _) zO)
  have HS0 := Lib.hid (show (w.alloc zO).heap.size = w.heap.size + 1 by simp)
  have hga := get_bang s a ha
  have HNE : Hid (∀ i, i < 13 → (h : i < SG.size) → (((SG[i]'h).toNat : Int) == ((s[a]'ha).toNat : Int)) = false) := Lib.hid (fun i hi h => by
    have h1 := sg_in i hi
    rw [← sg_at i hi, ← hga, beq_eq_false_iff_ne]
    intro e
    have : SG.get! i = s.get! a := UInt8.toNat_inj.1 (by omega)
    rw [this, hc] at h1
    cases h1)
  have HGA := Lib.hid hga
  have KP : Hid (∀ W, Calls Tryz.prog 42 #[.string s, .int .i64 (a : Nat), .string ⟨#[46, 46, 46]⟩] W fun e w' => e = .returned (.bool false) ∧ W = w') := Lib.hid (fun W => begins_ref s ⟨#[46, 46, 46]⟩ a (by omega) hs (by decide) _ hp W)
  clear hp
  have KL : Hid (∀ W, Calls Tryz.prog 43 #[.int .u8 (s[a]'ha).toNat] W fun e w' => e = .returned (.bool false) ∧ W = w') := Lib.hid (fun W => (letter_ref _ W).mono (by rintro e w' ⟨rfl, rfl⟩; exact ⟨ret_bool hl, rfl⟩))
  clear hl
  have KD : Hid (∀ W, Calls Tryz.prog 44 #[.int .u8 (s[a]'ha).toNat] W fun e w' => e = .returned (.bool false) ∧ W = w') := Lib.hid (fun W => (digit_ref _ W).mono (by rintro e w' ⟨rfl, rfl⟩; exact ⟨ret_bool hd, rfl⟩))
  clear hd
  have KW : Hid (∀ W, Calls Tryz.prog 42 #[.string s, .int .i64 (a : Nat), .string ⟨#[34, 34, 34]⟩] W fun e w' => e = .returned (.bool false) ∧ W = w') := Lib.hid (fun W => begins_ref s ⟨#[34, 34, 34]⟩ a (by omega) hs (by decide) _ hw W)
  clear hw
  have KX : Hid (∀ W, Calls Tryz.prog 47 #[.int .i64 (a : Nat)] W fun e w' => OneR G a e ∧ Below W.heap.size W w') := Lib.hid (fun W => by rw [hG]; exact (wrong_ref (a : Int) W).mono (by rintro e w' ⟨rfl, hb⟩; exact ⟨rfl, hb⟩))
  clear hG
  clear hc hga
  go_enter Tryz.func25, Tryz.ntmps25
  go_wp2_with fail
  generalize w.alloc zO = w0 at HR HB0 HS0 ⊢
  go_loopw [7] (fun v wr => ∃ i : Nat, v = .int .i64 (i : Nat) ∧ i ≤ 13 ∧ w0 = wr) (fun v _ => 13 - (intOf v).toNat)
  case atStart => exact ⟨0, rfl, Nat.zero_le _, rfl⟩
  case round =>
    obtain ⟨i, rfl, hi, rfl⟩ := hrel
    by_cases hlt : i < 13
    · have hlt' : i < SG.size := hlt
      have e1 := HNE.out i hlt hlt'
      go_wp2_with fail
      exact ⟨⟨i + 1, by go_num, by omega, by first | rfl | trivial⟩, by simp [intOf]; omega⟩
    · obtain rfl : i = 13 := by omega
      go_wp2_with fail
      refine (KP.out w0).mono ?_
      rintro e w1 ⟨rfl, rfl⟩
      go_wp2_with fail
      refine (KL.out w0).mono ?_
      rintro e w1 ⟨rfl, rfl⟩
      go_wp2_with fail
      refine (KD.out w0).mono ?_
      rintro e w1 ⟨rfl, rfl⟩
      go_wp2_with fail
      refine (KW.out w0).mono ?_
      rintro e w1 ⟨rfl, rfl⟩
      go_wp2_with fail
      refine (KX.out w0).mono ?_
      rintro e w9 ⟨hF, hb9⟩
      obtain ⟨k, t, p, b, er, rfl⟩ := one_shape hF
      have HF := Lib.hid hF
      have HR9 := Lib.hid (row_blk HR.out (hb9.block _ (show w.heap.size < w0.heap.size by rw [HS0.out]; omega)))
      have HB9 := Lib.hid (HB0.out.trans (hb9.mono (by rw [HS0.out]; omega)))
      clear hF hb9
      have z0 := HR9.out.cell (show 0 < 5 by decide)
      have z1 := HR9.out.cell (show 1 < 5 by decide)
      have z2 := HR9.out.cell (show 2 < 5 by decide)
      have z3 := HR9.out.cell (show 3 < 5 by decide)
      have z4 := HR9.out.cell (show 4 < 5 by decide)
      have g0 := HR9.out.frozen 0
      have g1 := HR9.out.frozen 1
      have g2 := HR9.out.frozen 2
      have g3 := HR9.out.frozen 3
      have g4 := HR9.out.frozen 4
      simp only [o5, List.getD_cons_succ, List.getD_cons_zero] at z0 z1 z2 z3 z4
      go_wp2_with fail
      refine bodyPost_ret (v := .agg #[.int .i64 k, .string t, .int .i64 p, .int .i64 b, .int .i64 er]) (by simp [results, Tryz.results25, go_sem, z0, z1, z2, z3, z4]; try rfl) rfl ?_
      exact ⟨HF.out, resO_below HB9.out (Nat.le_refl _)⟩
set_option maxHeartbeats 4000000 in
set_option maxRecDepth 100000 in
theorem next_q (s : ByteArray) (a : Nat) (ha : a < s.size) (hs : s.size ≤ 1000000) (hc : sgB (s.get! a) = false) (hp : ([46, 46, 46] : List UInt8).isPrefixOf (s.data.toList.drop a) = false) (h45 : (((s[a]'ha).toNat : Int) == 45) = false) (hl : isL ((s[a]'ha).toNat : Int) = false) (hd : isD ((s[a]'ha).toNat : Int) = false) (hw : rw3 (s.data.toList.drop a) = false) (h34 : (((s[a]'ha).toNat : Int) != 34) = false) (hq : ((s.extract a s.size).get! 0).toNat = 34) (U : ByteArray) (n : Nat) (er : Int) (hn : a + n ≤ s.size) (hU : unqE (s.extract a s.size) = .returned (.tuple #[.string U, .int .i64 (n : Nat), .int .i64 er])) (hz : (er != 0) = false) (G : Fst) (hG : G = .ok 4 U.data.toList n) (w : World) : Calls Tryz.prog 25 #[.string s, .int .i64 (a : Nat)] w fun e w' => OneR G a e ∧ Below w.heap.size w w' := by
  have HR := Lib.hid (row5 (heap_alloc_new w zO))
  have HB0 := Lib.hid ((Below.refl w.heap.size w).alloc (Nat.le_refl _) zO)
  have HS0 := Lib.hid (show (w.alloc zO).heap.size = w.heap.size + 1 by simp)
  have hga := get_bang s a ha
  have HNE : Hid (∀ i, i < 13 → (h : i < SG.size) → (((SG[i]'h).toNat : Int) == ((s[a]'ha).toNat : Int)) = false) := Lib.hid (fun i hi h => by
    have h1 := sg_in i hi
    rw [← sg_at i hi, ← hga, beq_eq_false_iff_ne]
    intro e
    have : SG.get! i = s.get! a := UInt8.toNat_inj.1 (by omega)
    rw [this, hc] at h1
    cases h1)
  have HGA := Lib.hid hga
  have HG := Lib.hid hG
  clear hG
  have KP : Hid (∀ W, Calls Tryz.prog 42 #[.string s, .int .i64 (a : Nat), .string ⟨#[46, 46, 46]⟩] W fun e w' => e = .returned (.bool false) ∧ W = w') := Lib.hid (fun W => begins_ref s ⟨#[46, 46, 46]⟩ a (by omega) hs (by decide) _ hp W)
  clear hp
  have KL : Hid (∀ W, Calls Tryz.prog 43 #[.int .u8 (s[a]'ha).toNat] W fun e w' => e = .returned (.bool false) ∧ W = w') := Lib.hid (fun W => (letter_ref _ W).mono (by rintro e w' ⟨rfl, rfl⟩; exact ⟨ret_bool hl, rfl⟩))
  clear hl
  have KD : Hid (∀ W, Calls Tryz.prog 44 #[.int .u8 (s[a]'ha).toNat] W fun e w' => e = .returned (.bool false) ∧ W = w') := Lib.hid (fun W => (digit_ref _ W).mono (by rintro e w' ⟨rfl, rfl⟩; exact ⟨ret_bool hd, rfl⟩))
  clear hd
  have KW : Hid (∀ W, Calls Tryz.prog 42 #[.string s, .int .i64 (a : Nat), .string ⟨#[34, 34, 34]⟩] W fun e w' => e = .returned (.bool false) ∧ W = w') := Lib.hid (fun W => begins_ref s ⟨#[34, 34, 34]⟩ a (by omega) hs (by decide) _ hw W)
  clear hw
  have KU : Hid (∀ W, Calls Tryz.prog 48 #[.string (s.extract a s.size)] W fun e w' => e = .returned (.tuple #[.string U, .int .i64 (n : Nat), .int .i64 er]) ∧ Below W.heap.size W w') := Lib.hid (fun W => by rw [← hU]; exact unqR_some (s.extract a s.size) (by rw [ByteArray.size_extract]; omega) (by rw [ByteArray.size_extract]; omega) hq W)
  clear hU hq
  clear hc hga
  go_enter Tryz.func25, Tryz.ntmps25
  go_wp2_with fail
  generalize w.alloc zO = w0 at HR HB0 HS0 ⊢
  go_loopw [7] (fun v wr => ∃ i : Nat, v = .int .i64 (i : Nat) ∧ i ≤ 13 ∧ w0 = wr) (fun v _ => 13 - (intOf v).toNat)
  case atStart => exact ⟨0, rfl, Nat.zero_le _, rfl⟩
  case round =>
    obtain ⟨i, rfl, hi, rfl⟩ := hrel
    by_cases hlt : i < 13
    · have hlt' : i < SG.size := hlt
      have e1 := HNE.out i hlt hlt'
      go_wp2_with fail
      exact ⟨⟨i + 1, by go_num, by omega, by first | rfl | trivial⟩, by simp [intOf]; omega⟩
    · obtain rfl : i = 13 := by omega
      go_wp2_with fail
      refine (KP.out w0).mono ?_
      rintro e w1 ⟨rfl, rfl⟩
      go_wp2_with fail
      refine (KL.out w0).mono ?_
      rintro e w1 ⟨rfl, rfl⟩
      go_wp2_with fail
      refine (KD.out w0).mono ?_
      rintro e w1 ⟨rfl, rfl⟩
      go_wp2_with fail
      refine (KW.out w0).mono ?_
      rintro e w1 ⟨rfl, rfl⟩
      go_wp2_with fail
      refine (KU.out w0).mono ?_
      rintro e w3 ⟨rfl, hb3⟩
      have HR3 := Lib.hid (row_blk HR.out (hb3.block _ (show w.heap.size < w0.heap.size by rw [HS0.out]; omega)))
      have HB3 := Lib.hid (HB0.out.trans (hb3.mono (by rw [HS0.out]; omega)))
      have HS3 := Lib.hid (show w.heap.size < w3.heap.size by have := hb3.size; have := HS0.out; omega)
      clear hb3
      have z0 := HR3.out.cell (show 0 < 5 by decide)
      have z1 := HR3.out.cell (show 1 < 5 by decide)
      have z2 := HR3.out.cell (show 2 < 5 by decide)
      have z3 := HR3.out.cell (show 3 < 5 by decide)
      have z4 := HR3.out.cell (show 4 < 5 by decide)
      have g0 := HR3.out.frozen 0
      have g1 := HR3.out.frozen 1
      have g2 := HR3.out.frozen 2
      have g3 := HR3.out.frozen 3
      have g4 := HR3.out.frozen 4
      simp only [o5, List.getD_cons_succ, List.getD_cons_zero] at z0 z1 z2 z3 z4
      go_wp2_with fail
      refine bodyPost_ret (v := .agg #[.int .i64 4, .string U, .int .i64 a, .int .i64 ((a : Int) + (n : Int)), .int .i64 0]) (by simp [results, Tryz.results25, go_sem, z0, z1, z2, z3, z4]; try rfl) rfl ?_
      refine ⟨?_, resO_below HB3.out (Nat.le_refl _)⟩
      rw [HG.out]
      show _ = Ending.returned (.agg #[.int .i64 4, .string ⟨U.data.toList.toArray⟩, .int .i64 (a : Nat), .int .i64 ((a + n : Nat) : Int), .int .i64 0])
      rw [ba_eq, Int.natCast_add]
set_option maxHeartbeats 4000000 in
set_option maxRecDepth 100000 in
theorem next_u (s : ByteArray) (a : Nat) (ha : a < s.size) (hs : s.size ≤ 1000000) (hc : sgB (s.get! a) = false) (hp : ([46, 46, 46] : List UInt8).isPrefixOf (s.data.toList.drop a) = false) (h45 : (((s[a]'ha).toNat : Int) == 45) = false) (hl : isL ((s[a]'ha).toNat : Int) = false) (hd : isD ((s[a]'ha).toNat : Int) = false) (hw : rw3 (s.data.toList.drop a) = false) (h34 : (((s[a]'ha).toNat : Int) != 34) = false) (hq : ((s.extract a s.size).get! 0).toNat = 34) (U : ByteArray) (n : Nat) (er : Int) (hn : a + n ≤ s.size) (hU : unqE (s.extract a s.size) = .returned (.tuple #[.string U, .int .i64 (n : Nat), .int .i64 er])) (hz : (er != 0) = true) (G : Fst) (hG : G = .no n) (w : World) : Calls Tryz.prog 25 #[.string s, .int .i64 (a : Nat)] w fun e w' => OneR G a e ∧ Below w.heap.size w w' := by
  have HR := Lib.hid (row5 (heap_alloc_new w zO))
  have HB0 := Lib.hid ((Below.refl w.heap.size w).alloc (Nat.le_refl _) zO)
  have HS0 := Lib.hid (show (w.alloc zO).heap.size = w.heap.size + 1 by simp)
  have hga := get_bang s a ha
  have HNE : Hid (∀ i, i < 13 → (h : i < SG.size) → (((SG[i]'h).toNat : Int) == ((s[a]'ha).toNat : Int)) = false) := Lib.hid (fun i hi h => by
    have h1 := sg_in i hi
    rw [← sg_at i hi, ← hga, beq_eq_false_iff_ne]
    intro e
    have : SG.get! i = s.get! a := UInt8.toNat_inj.1 (by omega)
    rw [this, hc] at h1
    cases h1)
  have HGA := Lib.hid hga
  have HG := Lib.hid hG
  clear hG
  have KP : Hid (∀ W, Calls Tryz.prog 42 #[.string s, .int .i64 (a : Nat), .string ⟨#[46, 46, 46]⟩] W fun e w' => e = .returned (.bool false) ∧ W = w') := Lib.hid (fun W => begins_ref s ⟨#[46, 46, 46]⟩ a (by omega) hs (by decide) _ hp W)
  clear hp
  have KL : Hid (∀ W, Calls Tryz.prog 43 #[.int .u8 (s[a]'ha).toNat] W fun e w' => e = .returned (.bool false) ∧ W = w') := Lib.hid (fun W => (letter_ref _ W).mono (by rintro e w' ⟨rfl, rfl⟩; exact ⟨ret_bool hl, rfl⟩))
  clear hl
  have KD : Hid (∀ W, Calls Tryz.prog 44 #[.int .u8 (s[a]'ha).toNat] W fun e w' => e = .returned (.bool false) ∧ W = w') := Lib.hid (fun W => (digit_ref _ W).mono (by rintro e w' ⟨rfl, rfl⟩; exact ⟨ret_bool hd, rfl⟩))
  clear hd
  have KW : Hid (∀ W, Calls Tryz.prog 42 #[.string s, .int .i64 (a : Nat), .string ⟨#[34, 34, 34]⟩] W fun e w' => e = .returned (.bool false) ∧ W = w') := Lib.hid (fun W => begins_ref s ⟨#[34, 34, 34]⟩ a (by omega) hs (by decide) _ hw W)
  clear hw
  have KU : Hid (∀ W, Calls Tryz.prog 48 #[.string (s.extract a s.size)] W fun e w' => e = .returned (.tuple #[.string U, .int .i64 (n : Nat), .int .i64 er]) ∧ Below W.heap.size W w') := Lib.hid (fun W => by rw [← hU]; exact unqR_some (s.extract a s.size) (by rw [ByteArray.size_extract]; omega) (by rw [ByteArray.size_extract]; omega) hq W)
  clear hU hq
  clear hc hga
  go_enter Tryz.func25, Tryz.ntmps25
  go_wp2_with fail
  generalize w.alloc zO = w0 at HR HB0 HS0 ⊢
  go_loopw [7] (fun v wr => ∃ i : Nat, v = .int .i64 (i : Nat) ∧ i ≤ 13 ∧ w0 = wr) (fun v _ => 13 - (intOf v).toNat)
  case atStart => exact ⟨0, rfl, Nat.zero_le _, rfl⟩
  case round =>
    obtain ⟨i, rfl, hi, rfl⟩ := hrel
    by_cases hlt : i < 13
    · have hlt' : i < SG.size := hlt
      have e1 := HNE.out i hlt hlt'
      go_wp2_with fail
      exact ⟨⟨i + 1, by go_num, by omega, by first | rfl | trivial⟩, by simp [intOf]; omega⟩
    · obtain rfl : i = 13 := by omega
      go_wp2_with fail
      refine (KP.out w0).mono ?_
      rintro e w1 ⟨rfl, rfl⟩
      go_wp2_with fail
      refine (KL.out w0).mono ?_
      rintro e w1 ⟨rfl, rfl⟩
      go_wp2_with fail
      refine (KD.out w0).mono ?_
      rintro e w1 ⟨rfl, rfl⟩
      go_wp2_with fail
      refine (KW.out w0).mono ?_
      rintro e w1 ⟨rfl, rfl⟩
      go_wp2_with fail
      refine (KU.out w0).mono ?_
      rintro e w3 ⟨rfl, hb3⟩
      have HR3 := Lib.hid (row_blk HR.out (hb3.block _ (show w.heap.size < w0.heap.size by rw [HS0.out]; omega)))
      have HB3 := Lib.hid (HB0.out.trans (hb3.mono (by rw [HS0.out]; omega)))
      have HS3 := Lib.hid (show w.heap.size < w3.heap.size by have := hb3.size; have := HS0.out; omega)
      clear hb3
      go_wp2_with fail
      refine (wrong_ref ((a : Int) + (n : Int)) w3).mono ?_
      rintro e w9 ⟨rfl, hb9⟩
      have HR9 := Lib.hid (row_blk HR3.out (hb9.block _ HS3.out))
      have HB9 := Lib.hid (HB3.out.trans (hb9.mono (Nat.le_of_lt HS3.out)))
      clear hb9
      have z0 := HR9.out.cell (show 0 < 5 by decide)
      have z1 := HR9.out.cell (show 1 < 5 by decide)
      have z2 := HR9.out.cell (show 2 < 5 by decide)
      have z3 := HR9.out.cell (show 3 < 5 by decide)
      have z4 := HR9.out.cell (show 4 < 5 by decide)
      have g0 := HR9.out.frozen 0
      have g1 := HR9.out.frozen 1
      have g2 := HR9.out.frozen 2
      have g3 := HR9.out.frozen 3
      have g4 := HR9.out.frozen 4
      simp only [o5, List.getD_cons_succ, List.getD_cons_zero] at z0 z1 z2 z3 z4
      go_wp2_with fail
      refine bodyPost_ret (v := .agg #[.int .i64 0, .string ⟨#[]⟩, .int .i64 0, .int .i64 ((a : Int) + (n : Int)), .int .i64 3]) (by simp [results, Tryz.results25, go_sem, z0, z1, z2, z3, z4]; try rfl) rfl ?_
      refine ⟨?_, resO_below HB9.out (Nat.le_refl _)⟩
      rw [HG.out]
      show _ = Ending.returned (.agg #[.int .i64 0, .string ⟨#[]⟩, .int .i64 0, .int .i64 ((a + n : Nat) : Int), .int .i64 3])
      rw [Int.natCast_add]
set_option maxHeartbeats 4000000 in
set_option maxRecDepth 100000 in
theorem next_n (s : ByteArray) (a : Nat) (ha : a < s.size) (hs : s.size ≤ 1000000) (hc : sgB (s.get! a) = false) (hp : ([46, 46, 46] : List UInt8).isPrefixOf (s.data.toList.drop a) = false) (hl : isL ((s[a]'ha).toNat : Int) = true) (N : Nat) (hT : a + tk nmB (s.data.toList.drop a) = N) (haN : a ≤ N) (hNs : N ≤ s.size) (G : Fst) (hG : G = .ok 2 ((s.data.toList.drop a).take (N - a)) (N - a)) (w : World) : Calls Tryz.prog 25 #[.string s, .int .i64 (a : Nat)] w fun e w' => OneR G a e ∧ Below w.heap.size w w' := by
  have HR := Lib.hid (row5 (heap_alloc_new w zO))
  have HB0 := Lib.hid ((Below.refl w.heap.size w).alloc (Nat.le_refl _) zO)
  have HS0 := Lib.hid (show (w.alloc zO).heap.size = w.heap.size + 1 by simp)
  have hga := get_bang s a ha
  have HNE : Hid (∀ i, i < 13 → (h : i < SG.size) → (((SG[i]'h).toNat : Int) == ((s[a]'ha).toNat : Int)) = false) := Lib.hid (fun i hi h => by
    have h1 := sg_in i hi
    rw [← sg_at i hi, ← hga, beq_eq_false_iff_ne]
    intro e
    have : SG.get! i = s.get! a := UInt8.toNat_inj.1 (by omega)
    rw [this, hc] at h1
    cases h1)
  have HGA := Lib.hid hga
  have HG := Lib.hid hG
  have HT := Lib.hid hT
  clear hG hT
  have KP : Hid (∀ W, Calls Tryz.prog 42 #[.string s, .int .i64 (a : Nat), .string ⟨#[46, 46, 46]⟩] W fun e w' => e = .returned (.bool false) ∧ W = w') := Lib.hid (fun W => begins_ref s ⟨#[46, 46, 46]⟩ a (by omega) hs (by decide) _ hp W)
  clear hp
  have KL : Hid (∀ W, Calls Tryz.prog 43 #[.int .u8 (s[a]'ha).toNat] W fun e w' => e = .returned (.bool true) ∧ W = w') := Lib.hid (fun W => (letter_ref _ W).mono (by rintro e w' ⟨rfl, rfl⟩; exact ⟨ret_bool hl, rfl⟩))
  clear hl
  clear hc hga
  go_enter Tryz.func25, Tryz.ntmps25
  go_wp2_with fail
  generalize w.alloc zO = w0 at HR HB0 HS0 ⊢
  go_loopw [7] (fun v wr => ∃ i : Nat, v = .int .i64 (i : Nat) ∧ i ≤ 13 ∧ w0 = wr) (fun v _ => 13 - (intOf v).toNat)
  case atStart => exact ⟨0, rfl, Nat.zero_le _, rfl⟩
  case round =>
    obtain ⟨i, rfl, hi, rfl⟩ := hrel
    by_cases hlt : i < 13
    · have hlt' : i < SG.size := hlt
      have e1 := HNE.out i hlt hlt'
      go_wp2_with fail
      exact ⟨⟨i + 1, by go_num, by omega, by first | rfl | trivial⟩, by simp [intOf]; omega⟩
    · obtain rfl : i = 13 := by omega
      go_wp2_with fail
      refine (KP.out w0).mono ?_
      rintro e w1 ⟨rfl, rfl⟩
      go_wp2_with fail
      refine (KL.out w0).mono ?_
      rintro e w1 ⟨rfl, rfl⟩
      go_wp2_with fail
      go_loopw [8] (fun v wr => ∃ k : Nat, v = .int .i64 (k : Nat) ∧ a ≤ k ∧ k ≤ N ∧ k + tk nmB (s.data.toList.drop k) = N ∧ w0 = wr) (fun v _ => s.size - (intOf v).toNat)
      case atStart => exact ⟨a, rfl, Nat.le_refl _, haN, HT.out, rfl⟩
      case round =>
        obtain ⟨k, rfl, hak, hkN, hT, rfl⟩ := hrel
        have HTK := Lib.hid hT
        clear hT
        by_cases hlk : k < s.size
        · have hgk := get_bang s k hlk
          have KLk := Lib.hid (fun W => letter_ref ((s[k]'hlk).toNat : Int) W)
          have KDk := Lib.hid (fun W => digit_ref ((s[k]'hlk).toNat : Int) W)
          have hnm : nmB (s.get! k) = (isL ((s[k]'hlk).toNat : Int) || isD ((s[k]'hlk).toNat : Int)) := by rw [hgk]; rfl
          cases hl : isL ((s[k]'hlk).toNat : Int)
          · cases hd : isD ((s[k]'hlk).toNat : Int)
            · have HEQ : Hid (k = N) := Lib.hid (by have := HTK.out; rw [tk_no hlk (by rw [hnm, hl, hd]; rfl)] at this; exact this)
              rw [hl] at KLk
              rw [hd] at KDk
              clear hnm hgk hl hd
              have z0 := HR.out.cell (show 0 < 5 by decide)
              have z1 := HR.out.cell (show 1 < 5 by decide)
              have z2 := HR.out.cell (show 2 < 5 by decide)
              have z3 := HR.out.cell (show 3 < 5 by decide)
              have z4 := HR.out.cell (show 4 < 5 by decide)
              have g0 := HR.out.frozen 0
              have g1 := HR.out.frozen 1
              have g2 := HR.out.frozen 2
              have g3 := HR.out.frozen 3
              have g4 := HR.out.frozen 4
              simp only [o5, List.getD_cons_succ, List.getD_cons_zero] at z0 z1 z2 z3 z4
              go_wp2_with fail
              refine (KLk.out w0).mono ?_
              rintro e w1 ⟨rfl, rfl⟩
              go_wp2_with fail
              refine (KDk.out w0).mono ?_
              rintro e w1 ⟨rfl, rfl⟩
              go_wp2_with fail
              refine bodyPost_ret (v := .agg #[.int .i64 2, .string (s.extract a k), .int .i64 a, .int .i64 k, .int .i64 0]) (by simp [results, Tryz.results25, go_sem, z0, z1, z2, z3, z4]; try rfl) rfl ?_
              refine ⟨?_, resO_below HB0.out (Nat.le_refl _)⟩
              have hE := HEQ.out
              subst hE
              rw [HG.out]
              show _ = Ending.returned (.agg #[.int .i64 2, .string ⟨((s.data.toList.drop a).take (k - a)).toArray⟩, .int .i64 (a : Nat), .int .i64 ((a + (k - a) : Nat) : Int), .int .i64 0])
              rw [show a + (k - a) = k by omega, show (⟨((s.data.toList.drop a).take (k - a)).toArray⟩ : ByteArray) = s.extract a k by refine ByteArray.ext (Array.toList_inj.1 ?_); rw [List.toList_toArray, Lib.extract_data]]
            · have HN2 : Hid (k + 1 + tk nmB (s.data.toList.drop (k + 1)) = N) := Lib.hid (by have := HTK.out; rw [tk_step hlk (by rw [hnm, hl, hd]; rfl)] at this; omega)
              have hk1 : k + 1 ≤ N := by have := HN2.out; omega
              rw [hl] at KLk
              rw [hd] at KDk
              clear hnm hgk hl hd
              go_wp2_with fail
              refine (KLk.out w0).mono ?_
              rintro e w1 ⟨rfl, rfl⟩
              go_wp2_with fail
              refine (KDk.out w0).mono ?_
              rintro e w1 ⟨rfl, rfl⟩
              go_wp2_with fail
              exact ⟨⟨k + 1, by go_num, by omega, hk1, HN2.out, by first | rfl | trivial⟩, by simp [intOf]; omega⟩
          · have HN2 : Hid (k + 1 + tk nmB (s.data.toList.drop (k + 1)) = N) := Lib.hid (by have := HTK.out; rw [tk_step hlk (by rw [hnm, hl]; rfl)] at this; omega)
            have hk1 : k + 1 ≤ N := by have := HN2.out; omega
            rw [hl] at KLk
            clear hnm hgk hl
            go_wp2_with fail
            refine (KLk.out w0).mono ?_
            rintro e w1 ⟨rfl, rfl⟩
            go_wp2_with fail
            exact ⟨⟨k + 1, by go_num, by omega, hk1, HN2.out, by first | rfl | trivial⟩, by simp [intOf]; omega⟩
        · have HEQ : Hid (k = N) := Lib.hid (by have := HTK.out; rw [tk_end hlk] at this; exact this)
          have z0 := HR.out.cell (show 0 < 5 by decide)
          have z1 := HR.out.cell (show 1 < 5 by decide)
          have z2 := HR.out.cell (show 2 < 5 by decide)
          have z3 := HR.out.cell (show 3 < 5 by decide)
          have z4 := HR.out.cell (show 4 < 5 by decide)
          have g0 := HR.out.frozen 0
          have g1 := HR.out.frozen 1
          have g2 := HR.out.frozen 2
          have g3 := HR.out.frozen 3
          have g4 := HR.out.frozen 4
          simp only [o5, List.getD_cons_succ, List.getD_cons_zero] at z0 z1 z2 z3 z4
          go_wp2_with fail
          refine bodyPost_ret (v := .agg #[.int .i64 2, .string (s.extract a k), .int .i64 a, .int .i64 k, .int .i64 0]) (by simp [results, Tryz.results25, go_sem, z0, z1, z2, z3, z4]; try rfl) rfl ?_
          refine ⟨?_, resO_below HB0.out (Nat.le_refl _)⟩
          have hE := HEQ.out
          subst hE
          rw [HG.out]
          show _ = Ending.returned (.agg #[.int .i64 2, .string ⟨((s.data.toList.drop a).take (k - a)).toArray⟩, .int .i64 (a : Nat), .int .i64 ((a + (k - a) : Nat) : Int), .int .i64 0])
          rw [show a + (k - a) = k by omega, show (⟨((s.data.toList.drop a).take (k - a)).toArray⟩ : ByteArray) = s.extract a k by refine ByteArray.ext (Array.toList_inj.1 ?_); rw [List.toList_toArray, Lib.extract_data]]
end Go.Proofs.YtejniiehfangkaaGreatDoor

/- The document's own next token, all ways. -/
set_option linter.unusedVariables false
set_option linter.unusedSimpArgs false
namespace Go.Proofs.YtejniiehfangkaaGreatDoor
open Go.RowKit
theorem pre_no {c d : UInt8} {p t : List UInt8} (h : d ≠ c) : (d :: p).isPrefixOf (c :: t) = false := by
  simp only [List.isPrefixOf, Bool.and_eq_false_iff]
  exact .inl (beq_eq_false_iff_ne.2 h)
theorem nx_of (F : Fst) (l : List UInt8) (h : fstL l = F) (hk : ∀ k x m, F = .ok k x m → k ≠ 3) : nxtL l = F := by
  unfold nxtL
  rw [h]
  cases F with
  | no b => rfl
  | ok k x m =>
    dsimp only
    rw [if_neg (fun e => hk k x m rfl e.1)]
theorem nx_num (l : List UInt8) (h : fstL l = numL l) : nxtL l = numX l := by
  unfold nxtL numX
  rw [h]
  unfold numL
  by_cases c : dgN l = 0 ∨ 9007199254740991 < vlN l ∨ (sgN l = 1 ∧ vlN l = 0)
  · rw [if_pos c]
  · rw [if_neg c]
    dsimp only
    by_cases hp : hdP (l.drop (sgN l + dgN l)) = true
    · rw [if_pos ⟨rfl, hp⟩, if_pos hp]
    · rw [if_neg (fun e => hp e.2), if_neg hp]
set_option maxHeartbeats 1000000 in
theorem next_any (s : ByteArray) (a : Nat) (ha : a < s.size) (hs : s.size ≤ 1000000) (w : World) : Calls Tryz.prog 25 #[.string s, .int .i64 (a : Nat)] w fun e w' => OneR (nxtL (s.data.toList.drop a)) a e ∧ Below w.heap.size w w' := by
  have hl := drop_cons s a ha
  have hga := get_bang s a ha
  have hF : fstL (s.data.toList.drop a) = (if sgB (s.get! a) then .ok 1 [s.get! a] 1
      else if (s.get! a).toNat = 46 then (if [46, 46, 46].isPrefixOf (s.data.toList.drop a) then .ok 1 [46, 46, 46] 3 else .no 0)
      else if (s.get! a).toNat = 45 ∨ dgB (s.get! a) = true then numL (s.data.toList.drop a)
      else if (s.get! a).toNat = 34 then (if rw3 (s.data.toList.drop a) then rawL (s.data.toList.drop a) else strL (s.data.toList.drop a))
      else namL (s.data.toList.drop a)) := by
    rw [hl]; rfl
  have cI : ∀ z : Nat, (s.get! a).toNat ≠ z → (((s[a]'ha).toNat : Int) == (z : Int)) = false := fun z h => beq_eq_false_iff_ne.2 (by rw [← hga]; omega)
  by_cases c1 : sgB (s.get! a) = true
  · rw [if_pos c1] at hF
    exact next_sign s a ha hs c1 _ (nx_of _ _ hF (by intro k x m h; cases h; decide)) w
  have c1' : sgB (s.get! a) = false := by simpa using c1
  rw [if_neg c1] at hF
  have hno46 : (s.get! a).toNat ≠ 46 → ([46, 46, 46] : List UInt8).isPrefixOf (s.data.toList.drop a) = false := fun h => by
    rw [hl]; exact pre_no (fun e => h (by rw [← e]; rfl))
  have hno34 : (s.get! a).toNat ≠ 34 → rw3 (s.data.toList.drop a) = false := fun h => by
    rw [hl]; exact pre_no (fun e => h (by rw [← e]; rfl))
  have hLD : isL ((s[a]'ha).toNat : Int) = lrB (s.get! a) ∧ isD ((s[a]'ha).toNat : Int) = dgB (s.get! a) := by rw [hga]; exact ⟨rfl, rfl⟩
  obtain ⟨hLr, hDr⟩ := hLD
  have lr_is : lrB (s.get! a) = true → (97 ≤ (s.get! a).toNat ∧ (s.get! a).toNat ≤ 122) ∨ (65 ≤ (s.get! a).toNat ∧ (s.get! a).toNat ≤ 90) ∨ (s.get! a).toNat = 95 := fun h => by
    unfold lrB isL at h
    simp at h
    omega
  have lr_no : ∀ P : Prop, (lrB (s.get! a) = true → False) → isL ((s[a]'ha).toNat : Int) = false := fun _ h => by
    rw [hLr]
    cases hq : lrB (s.get! a)
    · rfl
    · exact (h hq).elim
  have dg_no : (dgB (s.get! a) = true → False) → isD ((s[a]'ha).toNat : Int) = false := fun h => by
    rw [hDr]
    cases hq : dgB (s.get! a)
    · rfl
    · exact (h hq).elim
  by_cases c2 : (s.get! a).toNat = 46
  · rw [if_pos c2] at hF
    cases hp : ([46, 46, 46] : List UInt8).isPrefixOf (s.data.toList.drop a)
    · rw [hp, if_neg (by simp)] at hF
      refine next_w s a ha hs c1' hp (cI 45 (by omega)) (lr_no True fun h => by have := lr_is h; omega) (dg_no fun h => by have := dgB_is h; omega) (hno34 (by omega)) ?_ _ (nx_of _ _ hF (by intro k x m h; cases h)) w
      rw [← hga, bne_iff_ne]; omega
    · rw [hp, if_pos rfl] at hF
      exact next_p s a ha hs c1' hp _ (nx_of _ _ hF (by intro k x m h; cases h; decide)) w
  rw [if_neg c2] at hF
  by_cases c3 : (s.get! a).toNat = 45 ∨ dgB (s.get! a) = true
  · rw [if_pos c3] at hF
    have hX := nx_num _ hF
    have hl' : isL ((s[a]'ha).toNat : Int) = false := lr_no True fun h => by
      have := lr_is h
      rcases c3 with c3 | c3
      · omega
      · have := dgB_is c3; omega
    by_cases c45 : (s.get! a).toNat = 45
    · exact next_m s a ha hs c1' (hno46 c2) (by rw [← hga, c45]; rfl) hl' _ hX.symm w
    · have hd : dgB (s.get! a) = true := c3.resolve_left c45
      exact next_d s a ha hs c1' (hno46 c2) (cI 45 c45) hl' (by rw [hDr]; exact hd) _ hX.symm w
  rw [if_neg c3] at hF
  have h45 := cI 45 (fun e => c3 (.inl e))
  have hd' := dg_no fun h => c3 (.inr h)
  by_cases c4 : (s.get! a).toNat = 34
  · rw [if_pos c4] at hF
    have hl' : isL ((s[a]'ha).toNat : Int) = false := lr_no True fun h => by have := lr_is h; omega
    have h34 : (((s[a]'ha).toNat : Int) != 34) = false := by rw [← hga, c4]; rfl
    cases hw : rw3 (s.data.toList.drop a)
    · rw [hw, if_neg (by simp)] at hF
      have hed : (s.extract a s.size).data.toList = s.data.toList.drop a := ext_drop s a
      have hq : ((s.extract a s.size).get! 0).toNat = 34 := by
        have h0 : (s.extract a s.size).data.toList.drop 0 = s.get! a :: s.data.toList.drop (a + 1) := by rw [List.drop_zero, hed, hl]
        rw [(drop_some _ 0 _ _ h0).2.1]; exact c4
      have hin := unq_in (s.extract a s.size)
      rw [ByteArray.size_extract] at hin
      have hS : strL (s.data.toList.drop a) = if (unq (s.extract a s.size)).2.2 = 0 then .ok 4 (unq (s.extract a s.size)).1 (unq (s.extract a s.size)).2.1 else .no (unq (s.extract a s.size)).2.1 := by
        unfold strL
        rw [← hed, ba_eq]
      rw [hS] at hF
      by_cases c6 : (unq (s.extract a s.size)).2.2 = 0
      · rw [if_pos c6] at hF
        refine next_q s a ha hs c1' (hno46 c2) h45 hl' hd' hw h34 hq ⟨(unq (s.extract a s.size)).1.toArray⟩ (unq (s.extract a s.size)).2.1 ((unq (s.extract a s.size)).2.2 : Nat) (by omega) rfl (by rw [c6]; rfl) _ ?_ w
        rw [nx_of _ _ hF (by intro k x m h; cases h; decide)]
      · rw [if_neg c6] at hF
        exact next_u s a ha hs c1' (hno46 c2) h45 hl' hd' hw h34 hq ⟨(unq (s.extract a s.size)).1.toArray⟩ (unq (s.extract a s.size)).2.1 ((unq (s.extract a s.size)).2.2 : Nat) (by omega) rfl (by simp; omega) _ (nx_of _ _ hF (by intro k x m h; cases h)) w
    · rw [hw, if_pos rfl] at hF
      refine next_r s a ha hs c1' (hno46 c2) h45 hl' hd' hw _ ?_ w
      refine (nx_of _ _ hF ?_).symm
      intro k x m h
      unfold rawL at h
      cases hr : rawE 0 34 ((s.data.toList.drop a).drop 3) with
      | none => rw [hr] at h; cases h
      | some j =>
        rw [hr] at h
        dsimp only at h
        split at h
        · cases h
        · cases h; decide
  rw [if_neg c4] at hF
  cases hlr : lrB (s.get! a)
  · have ht : tk nmB (s.data.toList.drop a) = 0 := tk_no ha (by
      unfold nmB
      rw [hlr]
      cases hq : dgB (s.get! a)
      · rfl
      · exact absurd (Or.inr hq) c3)
    have hN : namL (s.data.toList.drop a) = .no 0 := by unfold namL; rw [if_pos ht]
    rw [hN] at hF
    refine next_w s a ha hs c1' (hno46 c2) h45 (by rw [hLr, hlr]) hd' (hno34 c4) ?_ _ (nx_of _ _ hF (by intro k x m h; cases h)) w
    rw [← hga, bne_iff_ne]; omega
  · have ht : 1 ≤ tk nmB (s.data.toList.drop a) := by
      rw [tk_step ha (by unfold nmB; rw [hlr]; rfl)]; omega
    have hle := tk_le nmB (s.data.toList.drop a)
    rw [List.length_drop, ← Lib.size_eq] at hle
    have hN : namL (s.data.toList.drop a) = .ok 2 ((s.data.toList.drop a).take (tk nmB (s.data.toList.drop a))) (tk nmB (s.data.toList.drop a)) := by unfold namL; rw [if_neg (by omega)]
    rw [hN] at hF
    refine next_n s a ha hs c1' (hno46 c2) (by rw [hLr, hlr]) (a + tk nmB (s.data.toList.drop a)) rfl (by omega) (by omega) _ ?_ w
    rw [nx_of _ _ hF (by intro k x m h; cases h; decide), Nat.add_sub_cancel_left]
end Go.Proofs.YtejniiehfangkaaGreatDoor

/- The document's own Lex. -/
set_option linter.unusedVariables false
set_option linter.unusedSimpArgs false
namespace Go.Proofs.YtejniiehfangkaaGreatDoor
open Go.RowKit
/-- Between two tokens: ts so far, e the place behind what may stand between. -/
structure LxJ (x : ByteArray) (G : Toks) (w : World) (v : Value) (ts : List Tkn) (e f : Nat) (wr : World) : Prop where
  hes : e ≤ x.size
  hlen : ts.length ≤ e
  own : wr.ownsRow (w.heap.size + 1) 41 3 v ts.length (tkCs ts)
  bel : Below w.heap.size w wr
  flt : Flt wr w.heap.size
  hf : x.size < e + f
  hG : consT ts (refF f (x.data.toList.drop e) e ts.length) = G
theorem LxJ.go {x : ByteArray} {G : Toks} {w wr w' : World} {v : Value} {ts : List Tkn} {e f : Nat} (h : LxJ x G w v ts e f wr) (hb : Below wr.heap.size wr w') : LxJ x G w v ts e f w' :=
  ⟨h.hes, h.hlen, own_belowT h.own hb, h.bel.trans (hb.mono h.bel.size), (hb.block _ h.flt.lt).trans h.flt, h.hf, h.hG⟩
/-- One token more. -/
theorem LxJ.put {x : ByteArray} {G : Toks} {w w3 w6 : World} {v v' : Value} {ts : List Tkn} {e f f' e' k : Nat} {s : List UInt8} {o o' : Obj} (h : LxJ x G w v ts e f w3) (hg : ((w3.alloc o).alloc o').grownBy w6 v.ownBlock) (hown : w6.ownsRow (w.heap.size + 1) 41 3 v' (ts.length + 1) (tkCs ts ++ [.int .i64 (k : Nat), .string ⟨s.toArray⟩, .int .i64 (e : Nat)]))
    (he : e < e') (hes : e' ≤ x.size) (hf : x.size < e' + f') (hG : G = consT ts (consT [⟨k, s, e⟩] (refF f' (x.data.toList.drop e') e' (ts.length + 1)))) : LxJ x G w v' (ts ++ [⟨k, s, e⟩]) e' f' w6 := by
  have hlo := fun j hj => (h.own.lt j hj).1
  have hz := h.bel.size
  refine ⟨hes, ?_, ?_, ?_, ?_, hf, ?_⟩
  · have := h.hlen; simp only [List.length_append, List.length_singleton]; omega
  · rw [tkCs_snoc, List.length_append]; exact hown
  · refine Below.grown ((h.bel.alloc hz o).alloc (by simp; omega) o') hg (by simp; omega) (fun j hj => ?_)
    have := hlo j hj; omega
  · have hq : some w.heap.size ≠ v.ownBlock := fun e => by have := hlo _ e.symm; omega
    have hl : w.heap.size < ((w3.alloc o).alloc o').heap.size := by have := h.flt.lt; simp; omega
    have h1 : ((w3.alloc o).alloc o').heap[w.heap.size]? = w3.heap[w.heap.size]? := by
      rw [Below.heap_alloc _ _ _ (by have := h.flt.lt; simp; omega), Below.heap_alloc _ _ _ h.flt.lt]
    exact (hg.block _ hl hq).trans (h1.trans h.flt)
  · rw [hG, consT_consT, List.length_append]; rfl
theorem nx_in (l : List UInt8) : FIn l (nxtL l) := by
  have h := fst_in l
  unfold nxtL
  cases hx : fstL l with
  | no b => rw [hx] at h; exact h
  | ok k s m =>
    rw [hx] at h
    dsimp only
    split
    · exact h.2
    · exact h
theorem refF_end {f e n : Nat} : refF (f + 1) [] e n = .inl [] := rfl
theorem refF_many {f e n : Nat} {l : List UInt8} (h : l.isEmpty = false) (hn : n = 900) : refF (f + 1) l e n = .inr (6, e) := by
  unfold refF
  rw [h, if_neg (by simp), if_pos hn]
theorem refF_no {f e n j : Nat} {l : List UInt8} (h : l.isEmpty = false) (hn : n ≠ 900) (hx : nxtL l = .no j) : refF (f + 1) l e n = .inr (3, e + j) := by
  unfold refF
  rw [h, if_neg (by simp), if_neg hn, hx]
theorem refF_ok {f e n k m : Nat} {s l : List UInt8} (h : l.isEmpty = false) (hn : n ≠ 900) (hx : nxtL l = .ok k s m) : refF (f + 1) l e n = consT [⟨k, s, e⟩] (refF f (l.drop (m + betw false (l.drop m))) (e + m + betw false (l.drop m)) (n + 1)) := by
  conv => lhs; unfold refF
  rw [h, if_neg (by simp), if_neg hn, hx]
set_option maxHeartbeats 1000000 in
set_option maxRecDepth 100000 in
theorem rlex_long (x : ByteArray) (hl : 4000 < x.size) (w : World) : Calls Tryz.prog 11 #[.string x] w (LxP (.inr (6, 0)) w) := by
  have HF := Lib.hid (show Flt (w.alloc zF) w.heap.size from heap_alloc_new w zF)
  have HB0 := Lib.hid ((Below.refl w.heap.size w).alloc (Nat.le_refl _) zF)
  have hgt : decide ((4000 : Int) < (x.size : Int)) = true := decide_eq_true (by omega)
  go_enter Tryz.func11, Tryz.ntmps11
  go_wp2_with fail
  refine bodyPost_ret (v := .tuple #[.slice none 0 0, .agg #[.int .i64 6, .int .i64 0]]) (by simp [results, Tryz.results11, go_sem]; try rfl) rfl ?_
  exact ⟨(Below.refl _ _).alloc (Nat.le_refl _) _, rfl⟩
set_option maxHeartbeats 1000000 in
set_option maxRecDepth 100000 in
theorem rlex_bad (x : ByteArray) (hl : x.size ≤ 4000) (b : Nat) (hb : badI x = (b : Nat)) (w : World) : Calls Tryz.prog 11 #[.string x] w (LxP (.inr (2, b)) w) := by
  have HF := Lib.hid (show Flt (w.alloc zF) w.heap.size from heap_alloc_new w zF)
  have HB0 := Lib.hid ((Below.refl w.heap.size w).alloc (Nat.le_refl _) zF)
  have hgt : decide ((4000 : Int) < (x.size : Int)) = false := decide_eq_false (by omega)
  have hge : decide ((0 : Int) ≤ (b : Int)) = true := decide_eq_true (by omega)
  have KB : Hid (∀ W, Calls Tryz.prog 23 #[.string x] W fun e w' => e = .returned (.int .i64 (b : Nat)) ∧ W = w') := Lib.hid (fun W => by rw [← hb]; exact bad_ref x (by omega) W)
  clear hb
  go_enter Tryz.func11, Tryz.ntmps11
  go_wp2_with fail
  generalize w.alloc zF = w0 at HF HB0 ⊢
  refine (KB.out w0).mono ?_
  rintro e w1 ⟨rfl, rfl⟩
  have z0 := HF.out.row.cell (show 0 < 2 by decide)
  have z1 := HF.out.row.cell (show 1 < 2 by decide)
  have g0 := HF.out.row.frozen 0
  have g1 := HF.out.row.frozen 1
  simp only [t2, List.getD_cons_succ, List.getD_cons_zero] at z0 z1
  go_wp2_with fail
  refine bodyPost_ret (v := .tuple #[.slice none 0 0, .agg #[.int .i64 2, .int .i64 (b : Nat)]]) (by simp [results, Tryz.results11, go_sem, z0, z1]; try rfl) rfl ?_
  exact ⟨resF_below HB0.out (Nat.le_refl _), rfl⟩
theorem own_c3 {w3 w6 : World} {Q : Nat} {ao : Option Addr} {n cap k e m : Nat} {xs : List Value} {s : List UInt8} {o : Obj} (h : w3.ownsRow Q 41 3 (.slice ao n cap) n xs)
    (hg : ((w3.alloc (Obj.cells #[.int .i64 (k : Nat), .string ⟨s.toArray⟩, .int .i64 (e : Nat), .int .i64 ((e : Int) + (m : Int)), .int .i64 0] 48)).alloc o).grownBy w6 (Value.slice ao n cap).ownBlock) : w6.cell? ⟨w3.heap.size, 3, none⟩ = some (.int .i64 ((e : Int) + (m : Int))) := by
  have hq : some w3.heap.size ≠ (Value.slice ao n cap).ownBlock := fun e1 => by have := (h.lt _ e1.symm).2; omega
  exact Lib.cell_of_heap ((hg.block w3.heap.size (by simp; omega) hq).trans ((Below.heap_alloc _ _ _ (by simp)).trans (heap_alloc_new w3 _))) 3
theorem resF_drew {w : World} {Q : Nat} {a b : Int} {p : Addr} {v : Value} (h : w.cell? p = some v) (hp : p.block ≠ Q) : (resF w Q a b).drew.cell? p = some v := by
  have : (resF w Q a b).drew.cell? p = (resF w Q a b).cell? p := rfl
  rw [this]
  rw [World.cell?_of_block (show (resF w Q a b).heap[p.block]? = w.heap[p.block]? from by rw [Below.heap_setCell _ _ _ _ hp, Below.heap_setCell _ _ _ _ hp])]
  exact h
set_option maxHeartbeats 4000000 in
set_option maxRecDepth 100000 in
theorem rlex_go (x : ByteArray) (hs : x.size ≤ 4000) (hb : badI x < 0) (w : World) : Calls Tryz.prog 11 #[.string x] w (LxP (refF (x.size + 1) (x.data.toList.drop (betw false x.data.toList)) (betw false x.data.toList) 0) w) := by
  have HF := Lib.hid (show Flt (w.alloc zF) w.heap.size from heap_alloc_new w zF)
  have HB0 := Lib.hid ((Below.refl w.heap.size w).alloc (Nat.le_refl _) zF)
  have hgt : decide ((4000 : Int) < (x.size : Int)) = false := decide_eq_false (by omega)
  have KB : Hid (∀ W, Calls Tryz.prog 23 #[.string x] W fun e w' => e = .returned (.int .i64 (badI x)) ∧ W = w') := Lib.hid (fun W => bad_ref x (by omega) W)
  have KT : Hid (∀ W, Calls Tryz.prog 24 #[.string x, .int .i64 0] W fun e w' => e = .returned (.int .i64 ((betw false x.data.toList : Nat) : Int)) ∧ W = w') := Lib.hid (fun W => by
    have := between_ref x 0 (Nat.zero_le _) (by omega) W
    rw [Nat.zero_add, List.drop_zero] at this
    exact this)
  generalize badI x = bd at hb KB
  have hge : decide ((0 : Int) ≤ bd) = false := decide_eq_false (by omega)
  have hb0 : betw false x.data.toList ≤ x.size := by
    have := betw_le false x.data.toList
    rwa [← Lib.size_eq] at this
  obtain ⟨b0, hb0e⟩ : ∃ b0, betw false x.data.toList = b0 := ⟨_, rfl⟩
  rw [hb0e] at hb0 KT ⊢
  obtain ⟨G, hG0⟩ : ∃ G, refF (x.size + 1) (x.data.toList.drop b0) b0 0 = G := ⟨_, rfl⟩
  have HG0 := Lib.hid hG0
  rw [hG0]
  obtain ⟨i0, hi, hz0, hz1, hz2⟩ := info_parts infoT
  clear hG0 hb0e
  go_enter Tryz.func11, Tryz.ntmps11
  go_wp2_with fail
  generalize w.alloc zF = w0 at HF HB0 ⊢
  refine (KB.out w0).mono ?_
  rintro e w1 ⟨rfl, rfl⟩
  go_wp2_with fail
  refine (KT.out w0).mono ?_
  rintro e w1 ⟨rfl, rfl⟩
  have HI0 : Hid (LxJ x G w (.slice none 0 0) [] b0 (x.size + 1) w0) := Lib.hid ⟨hb0, Nat.zero_le _, World.ownsRow_nil _ _ _ _, HB0.out, HF.out, by omega, by rw [consT_nil]; exact HG0.out⟩
  clear KB KT HF HB0
  go_wp2_with fail
  go_loopw [5, 6] (fun v v6 wr => ∃ (ts : List Tkn) (e f : Nat), v6 = .int .i64 (e : Nat) ∧ LxJ x G w v ts e f wr) (fun _ v6 _ => x.size - (intOf v6).toNat)
  case atStart => exact ⟨[], b0, x.size + 1, rfl, HI0.out⟩
  case round =>
    obtain ⟨ts, e, f, rfl, hI⟩ := hrel
    clear HI0
    obtain ⟨ao, cap, rfl, hao⟩ := own_shape hI.own
    obtain ⟨f', rfl⟩ : ∃ f', f = f' + 1 := ⟨f - 1, by have := hI.hf; have := hI.hes; omega⟩
    have HI := Lib.hid hI
    have hes := hI.hes
    have hlen := hI.hlen
    clear hI hao
    by_cases hlt : e < x.size
    · have HE : Hid ((x.data.toList.drop e).isEmpty = false) := Lib.hid (drop_some' (by rw [← Lib.size_eq]; exact hlt))
      by_cases hN : ts.length = 900
      · have HGA : Hid (G = .inr (6, e)) := Lib.hid (by rw [← HI.out.hG, refF_many HE.out hN]; rfl)
        have hN9 : ((ts.length : Int) == 900) = true := by simp; omega
        have z0 := HI.out.flt.row.cell (show 0 < 2 by decide)
        have z1 := HI.out.flt.row.cell (show 1 < 2 by decide)
        have g0 := HI.out.flt.row.frozen 0
        have g1 := HI.out.flt.row.frozen 1
        simp only [t2, List.getD_cons_succ, List.getD_cons_zero] at z0 z1
        go_wp2_with fail
        refine bodyPost_ret (v := .tuple #[.slice none 0 0, .agg #[.int .i64 6, .int .i64 (e : Nat)]]) (by simp [results, Tryz.results11, go_sem, z0, z1]; try rfl) rfl ?_
        rw [HGA.out]
        exact ⟨resF_below HI.out.bel (Nat.le_refl _), rfl⟩
      have hN9 : ((ts.length : Int) == 900) = false := by simp; omega
      have KN : Hid (Calls Tryz.prog 25 #[.string x, .int .i64 (e : Nat)] wr fun e' w' => OneR (nxtL (x.data.toList.drop e)) e e' ∧ Below wr.heap.size wr w') := Lib.hid (next_any x e hlt (by omega) wr)
      have hin := nx_in (x.data.toList.drop e)
      cases hx : nxtL (x.data.toList.drop e)
      case no j =>
        rw [hx] at KN hin
        have hj : e + j ≤ x.size := by
          have h2 : j ≤ (x.data.toList.drop e).length := hin
          rw [List.length_drop, ← Lib.size_eq] at h2
          omega
        have HGA : Hid (G = .inr (3, e + j)) := Lib.hid (by rw [← HI.out.hG, refF_no HE.out hN hx]; rfl)
        clear hx hin
        go_wp2_with fail
        refine KN.out.mono ?_
        rintro e' w3 ⟨hF, hb3⟩
        have hF := (show e' = .returned (.agg #[.int .i64 0, .string ⟨#[]⟩, .int .i64 0, .int .i64 ((e + j : Nat) : Int), .int .i64 3]) from hF)
        subst hF
        have HI3 := Lib.hid (HI.out.go hb3)
        clear hb3 KN
        have HF4 := Lib.hid (show Flt (w3.alloc (Obj.cells #[.int .i64 0, .string { data := #[] }, .int .i64 0, .int .i64 ((e : Int) + (j : Int)), .int .i64 3] 48)) w.heap.size from (Below.heap_alloc _ _ _ HI3.out.flt.lt).trans HI3.out.flt)
        have HB4 := Lib.hid (show Below w.heap.size w (w3.alloc (Obj.cells #[.int .i64 0, .string { data := #[] }, .int .i64 0, .int .i64 ((e : Int) + (j : Int)), .int .i64 3] 48)) from HI3.out.bel.alloc HI3.out.bel.size _)
        have HV4 := Lib.hid (heap_alloc_new w3 (Obj.cells #[.int .i64 0, .string { data := #[] }, .int .i64 0, .int .i64 ((e : Int) + (j : Int)), .int .i64 3] 48))
        have hVQ : w3.heap.size ≠ w.heap.size := by have := HI3.out.flt.lt; omega
        go_wp2_with fail
        generalize w3.alloc (Obj.cells #[.int .i64 0, .string { data := #[] }, .int .i64 0, .int .i64 ((e : Int) + (j : Int)), .int .i64 3] 48) = w4 at HF4 HB4 HV4 ⊢
        obtain ⟨Q, hQ⟩ : ∃ Q, w.heap.size = Q := ⟨_, rfl⟩
        obtain ⟨V, hV⟩ : ∃ V, w3.heap.size = V := ⟨_, rfl⟩
        rw [hQ] at HF4 hVQ ⊢
        rw [hV] at HV4 hVQ ⊢
        have z0 := HF4.out.row.cell (show 0 < 2 by decide)
        have z1 := HF4.out.row.cell (show 1 < 2 by decide)
        have g0 := HF4.out.row.frozen 0
        have g1 := HF4.out.row.frozen 1
        simp only [t2, List.getD_cons_succ, List.getD_cons_zero] at z0 z1
        have c2 : w4.cell? ⟨V, 4, none⟩ = some (.int .i64 3) := Lib.cell_of_heap HV4.out 4
        have c3 : w4.cell? ⟨V, 3, none⟩ = some (.int .i64 ((e : Int) + (j : Int))) := Lib.cell_of_heap HV4.out 3
        have HS0 := Lib.hid (show w4.drew.cell? ⟨V, 4, none⟩ = some (.int .i64 3) ∧ w4.drew.cell? ⟨V, 3, none⟩ = some (.int .i64 ((e : Int) + (j : Int))) from ⟨c2, c3⟩)
        have HS1 := Lib.hid (show (resF w4 Q 3 ((e : Int) + (j : Int))).drew.cell? ⟨V, 4, none⟩ = some (.int .i64 3) ∧ (resF w4 Q 3 ((e : Int) + (j : Int))).drew.cell? ⟨V, 3, none⟩ = some (.int .i64 ((e : Int) + (j : Int))) from ⟨resF_drew c2 hVQ, resF_drew c3 hVQ⟩)
        clear hgt
        go_region_held3 (fun w' => w'.cell? ⟨V, 4, none⟩ = some (.int .i64 3) ∧ w'.cell? ⟨V, 3, none⟩ = some (.int .i64 ((e : Int) + (j : Int))))
          (first
            | (have h7 := HS0.out; with_reducible exact h7)
            | (have h7 := HS1.out; with_reducible exact h7)
            | fail)
          (fail)
        go_wp2_with fail
        refine bodyPost_ret (v := .tuple #[.slice none 0 0, .agg #[.int .i64 3, .int .i64 ((e : Int) + (j : Int))]]) (by simp [results, Tryz.results11, go_sem, z0, z1]; try rfl) rfl ?_
        rw [HGA.out]
        exact ⟨(resF_below HB4.out (by omega)).drew, show _ = Ending.returned (.tuple #[.slice none 0 0, .agg #[.int .i64 3, .int .i64 (((e + j) : Nat) : Int)]]) from by simp⟩
      case ok k s m =>
        rw [hx] at KN hin
        have hm1 : 1 ≤ m := hin.1
        have hm2 : e + m ≤ x.size := by
          have h2 := hin.2
          rw [List.length_drop, ← Lib.size_eq] at h2
          omega
        obtain ⟨b, hbt⟩ : ∃ b, betw false (x.data.toList.drop (e + m)) = b := ⟨_, rfl⟩
        have hm3 : e + m + b ≤ x.size := by
          have := betw_le false (x.data.toList.drop (e + m))
          rw [hbt, List.length_drop, ← Lib.size_eq] at this
          omega
        have KT : Hid (∀ W, Calls Tryz.prog 24 #[.string x, .int .i64 ((e : Int) + (m : Int))] W fun e' w' => e' = .returned (.int .i64 (((e + m + b : Nat)) : Int)) ∧ W = w') := Lib.hid (fun W => by
          have := between_ref x (e + m) hm2 (by omega) W
          rw [hbt, Int.natCast_add e m] at this
          exact this)
        have HGA : Hid (G = consT ts (consT [⟨k, s, e⟩] (refF f' (x.data.toList.drop (e + m + b)) (e + m + b) (ts.length + 1)))) := Lib.hid (by
          rw [← HI.out.hG, refF_ok HE.out hN hx, show (x.data.toList.drop e).drop m = x.data.toList.drop (e + m) from by rw [List.drop_drop], hbt, List.drop_drop, ← Nat.add_assoc])
        clear hx hin hbt
        go_wp2_with fail
        refine KN.out.mono ?_
        rintro e' w3 ⟨hF, hb3⟩
        have hF := (show e' = .returned (.agg #[.int .i64 (k : Nat), .string ⟨s.toArray⟩, .int .i64 (e : Nat), .int .i64 ((e + m : Nat) : Int), .int .i64 0]) from hF)
        subst hF
        have HI3 := Lib.hid (HI.out.go hb3)
        clear hb3 KN
        go_wp2_with (at_builtin; refine wpList_append_own _ rfl _ _ 23 rfl (w.heap.size + 1) 41 i0 _ 3 32 Tryz.underlying23 hi hz0 hz1 hz2 rfl (by decide) (.slice ao ts.length cap) ts.length (tkCs ts) rfl ((HI3.out.own.alloc _).alloc _) ⟨w3.heap.size + 1, 0, none⟩ 1 1 [.int .i64 (k : Nat), .string ⟨s.toArray⟩, .int .i64 (e : Int)] rfl rfl (World.news_of_block (alloc2_new w3 _ _)) (by simp [Value.oneCell']) (by unfold maxLen; omega) (by omega) (by have := HI3.out.bel.size; simp; omega) ?_; intro v6 w6 hown6 hgrow6 _; have HO6 := Lib.hid hown6; have HG6 := Lib.hid hgrow6; clear hown6 hgrow6; have c3 := own_c3 HI3.out.own HG6.out)
        refine (KT.out w6).mono ?_
        rintro e' w7 ⟨rfl, rfl⟩
        go_wp2_with fail
        exact ⟨⟨_, e + m + b, f', by go_num, HI3.out.put HG6.out HO6.out (by omega) hm3 (by have := HI.out.hf; omega) HGA.out⟩, by simp [intOf]; omega⟩
    · have hee : e = x.size := by omega
      have HGA : Hid (G = .inl ts) := Lib.hid (by
        rw [← HI.out.hG, hee, show x.data.toList.drop x.size = [] from by rw [List.drop_eq_nil_iff, ← Lib.size_eq]; exact Nat.le_refl _, refF_end]
        unfold consT; simp)
      have z0 := HI.out.flt.row.cell (show 0 < 2 by decide)
      have z1 := HI.out.flt.row.cell (show 1 < 2 by decide)
      have g0 := HI.out.flt.row.frozen 0
      have g1 := HI.out.flt.row.frozen 1
      simp only [t2, List.getD_cons_succ, List.getD_cons_zero] at z0 z1
      go_wp2_with fail
      refine bodyPost_ret (v := .tuple #[.slice ao ts.length cap, .agg #[.int .i64 0, .int .i64 0]]) (by simp [results, Tryz.results11, go_sem, z0, z1]; try rfl) rfl ?_
      rw [HGA.out]
      exact ⟨resF_below HI.out.bel (Nat.le_refl _), _, rfl, own_setQ HI.out.own⟩
theorem rlex_any (x : ByteArray) (hs : x.size ≤ 1000000) (w : World) : Calls Tryz.prog 11 #[.string x] w (LxP (lexR x) w) := by
  unfold lexR
  by_cases h4 : 4000 < x.size
  · rw [if_pos h4]; exact rlex_long x h4 w
  rw [if_neg h4]
  by_cases hb : 0 ≤ badI x
  · rw [if_pos hb]
    exact rlex_bad x (by omega) (badI x).toNat (by omega) w
  · rw [if_neg hb]
    exact rlex_go x (by omega) (by omega) w
theorem rlex_read (x : ByteArray) (hs : x.size ≤ 1000000) (w : World) : Calls Tryz.prog 11 #[.string x] w (LxQ (lexR x) w) := by
  refine (rlex_any x hs w).mono ?_
  rintro e w' ⟨hb, hr⟩
  refine ⟨hb, ?_⟩
  cases hq : lexR x with
  | inl ts =>
    rw [hq] at hr
    obtain ⟨v, h1, h2⟩ := hr
    obtain ⟨a, c, rfl, -⟩ := own_shape h2
    exact ⟨a, c, h1, TkL.of_own h2⟩
  | inr q =>
    rw [hq] at hr
    exact hr
end Go.Proofs.YtejniiehfangkaaGreatDoor

/- Where tokens stand; plain. -/
set_option linter.unusedVariables false
set_option linter.unusedSimpArgs false
namespace Go.Proofs.YtejniiehfangkaaGreatDoor
/-- A string begins with its sign; what is none is just the bytes that stand there. -/
def FWh (l : List UInt8) : Fst → Prop
  | .ok k s m => (k = 4 ∧ l.head? = some 34) ∨ (k ≠ 4 ∧ s = l.take m ∧ s.length = m)
  | .no _ => True
theorem num_wh (l : List UInt8) : FWh l (numL l) := by
  have h := dgN_le l
  unfold numL
  split
  · trivial
  · exact .inr ⟨by decide, rfl, by rw [List.length_take, Nat.min_eq_left h]⟩
theorem raw_wh (l : List UInt8) (h : l.head? = some 34) : FWh l (rawL l) := by
  unfold rawL
  cases rawE 0 34 (l.drop 3) with
  | none => trivial
  | some j =>
    simp only
    split
    · trivial
    · exact .inl ⟨rfl, h⟩
theorem str_wh (l : List UInt8) (h : l.head? = some 34) : FWh l (strL l) := by
  unfold strL
  split
  · exact .inl ⟨rfl, h⟩
  · trivial
theorem nam_wh (l : List UInt8) : FWh l (namL l) := by
  unfold namL
  split
  · trivial
  · exact .inr ⟨by decide, rfl, by rw [List.length_take, Nat.min_eq_left (tk_le _ _)]⟩
theorem fst_wh (l : List UInt8) : FWh l (fstL l) := by
  unfold fstL
  cases l with
  | nil => trivial
  | cons c t =>
    simp only
    split
    · exact .inr ⟨by decide, by simp, rfl⟩
    split
    · split
      · rename_i h
        rw [List.isPrefixOf_iff_prefix] at h
        obtain ⟨r, hr⟩ := h
        exact .inr ⟨by decide, by rw [← hr]; rfl, rfl⟩
      · trivial
    split
    · exact num_wh _
    split
    · rename_i h
      have hc : (c :: t).head? = some 34 := by
        show some c = some 34
        rw [UInt8.toNat_inj.1 (show c.toNat = (34 : UInt8).toNat from h)]
      split
      · exact raw_wh _ hc
      · exact str_wh _ hc
    · exact nam_wh _
/-- Tokens stand at rising places, each as it is. -/
def plcs (L : List UInt8) : Nat → List Tkn → Prop
  | _, [] => True
  | fr, t :: ts => fr ≤ t.a ∧ t.a < L.length ∧ ((t.k = 4 ∧ (L.drop t.a).head? = some 34 ∧ plcs L (t.a + 1) ts) ∨ (t.k ≠ 4 ∧ 1 ≤ t.s.length ∧ t.a + t.s.length ≤ L.length ∧ t.s = (L.drop t.a).take t.s.length ∧ plcs L (t.a + t.s.length) ts))
theorem lexF_plcs (L : List UInt8) : ∀ (f e n : Nat) (nb : Bool) (ts : List Tkn) (fr : Nat), lexF f (L.drop e) e n nb = .inl ts → fr ≤ e → plcs L fr ts
  | 0, e, n, nb, ts, fr, h, _ => by simp [lexF] at h
  | f + 1, e, n, nb, ts, fr, h, hfr => by
    by_cases hb : betw false (L.drop e) < (L.drop e).length
    · by_cases hn : n = 900
      · rw [lexF_many hb hn] at h; cases h
      by_cases hp : betw false (L.drop e) = 0 ∧ nb = true ∧ hdP (L.drop e) = true
      · rw [lexF_part hb hn hp] at h; cases h
      cases hx : fstL ((L.drop e).drop (betw false (L.drop e))) with
      | no j => rw [lexF_no hb hn hp hx] at h; cases h
      | ok k s m =>
        have hst := fst_step hb hx
        have hwh := fst_wh ((L.drop e).drop (betw false (L.drop e)))
        rw [lexF_ok hb hn hp hx, List.drop_drop] at h
        rw [hx, List.drop_drop] at hwh
        generalize betw false (L.drop e) = b at *
        rw [List.length_drop] at hst hb
        cases hr : lexF f (L.drop (e + (b + m))) (e + b + m) (n + 1) (k == 3) with
        | inr q => rw [hr] at h; cases h
        | inl us =>
          rw [hr] at h
          have hts : ts = ⟨k, s, e + b⟩ :: us := by
            have := Sum.inl.inj h
            rw [← this]; rfl
          subst hts
          rw [← Nat.add_assoc] at hr
          refine ⟨by show fr ≤ e + b; omega, by show e + b < L.length; omega, ?_⟩
          rcases hwh with ⟨h4, hh⟩ | ⟨h4, hs, hl⟩
          · exact .inl ⟨h4, hh, lexF_plcs L f (e + b + m) (n + 1) (k == 3) us (e + b + 1) hr (by omega)⟩
          · refine .inr ⟨h4, by show 1 ≤ s.length; omega, by show e + b + s.length ≤ L.length; omega, by show s = (L.drop (e + b)).take s.length; rw [hl]; exact hs, ?_⟩
            exact lexF_plcs L f (e + b + m) (n + 1) (k == 3) us (e + b + s.length) hr (by omega)
    · rw [lexF_end (by omega)] at h
      cases h
      trivial
theorem plcs_len (L : List UInt8) : ∀ (ts : List Tkn) (fr : Nat), plcs L fr ts → fr ≤ L.length → fr + ts.length ≤ L.length
  | [], fr, _, h => by simpa using h
  | t :: us, fr, ⟨h1, h2, h3⟩, h => by
    have key : t.a + 1 + us.length ≤ L.length := by
      rcases h3 with ⟨_, _, hp⟩ | ⟨_, hn, hl, _, hp⟩
      · exact plcs_len L us (t.a + 1) hp (by omega)
      · have := plcs_len L us (t.a + t.s.length) hp hl
        omega
    simp only [List.length_cons]
    omega
theorem lexF_err : ∀ (f : Nat) (l : List UInt8) (e n : Nat) (nb : Bool) (q : Int × Nat), lexF f l e n nb = .inr q → q.1 ≠ 0 ∧ q.2 ≤ e + l.length
  | 0, l, e, n, nb, q, h => by
    simp only [lexF, Sum.inr.injEq] at h
    subst h
    exact ⟨by simp, by simp⟩
  | f + 1, l, e, n, nb, q, h => by
    by_cases hb : betw false l < l.length
    · by_cases hn : n = 900
      · rw [lexF_many hb hn] at h
        cases h
        exact ⟨by simp, by simp only; omega⟩
      by_cases hp : betw false l = 0 ∧ nb = true ∧ hdP l = true
      · rw [lexF_part hb hn hp] at h
        cases h
        exact ⟨by simp, by simp only; omega⟩
      cases hx : fstL (l.drop (betw false l)) with
      | no j =>
        rw [lexF_no hb hn hp hx] at h
        have hj := fst_in (l.drop (betw false l))
        rw [hx] at hj
        have hj2 : j ≤ (l.drop (betw false l)).length := hj
        rw [List.length_drop] at hj2
        cases h
        exact ⟨by simp, by simp only; omega⟩
      | ok k s m =>
        have hst := fst_step hb hx
        rw [lexF_ok hb hn hp hx] at h
        cases hr : lexF f (l.drop (betw false l + m)) (e + betw false l + m) (n + 1) (k == 3) with
        | inl us => rw [hr] at h; cases h
        | inr p =>
          rw [hr] at h
          have hp2 : p = q := Sum.inr.inj h
          subst hp2
          have := lexF_err f _ _ _ _ p hr
          rw [List.length_drop] at this
          exact ⟨this.1, by omega⟩
    · rw [lexF_end (by omega)] at h; cases h
theorem badI_le (s : ByteArray) : ∀ f i, badF s f i ≤ s.size ∧ (0 ≤ badF s f i → badF s f i ≤ s.size)
  | 0, i => by unfold badF; constructor <;> intros <;> omega
  | f + 1, i => by
    have h := badI_le s f (i + (Utf8.decode s i).2)
    unfold badF
    split
    · split
      · constructor <;> intros <;> omega
      · exact h
    · constructor <;> intros <;> omega
theorem lexB_err {s : ByteArray} {q : Int × Nat} (h : lexB s = .inr q) : q.1 ≠ 0 ∧ q.2 ≤ s.size := by
  unfold lexB at h
  split at h
  · cases h; exact ⟨by simp, by simp⟩
  split at h
  · cases h
    have := (badI_le s (s.size + 1) 0).1
    refine ⟨by simp, ?_⟩
    show (badI s).toNat ≤ s.size
    unfold badI
    omega
  · have := lexF_err _ _ _ _ _ _ h
    rw [← Lib.size_eq] at this
    exact ⟨this.1, by omega⟩
theorem lexB_ok {s : ByteArray} {ts : List Tkn} (h : lexB s = .inl ts) : s.size ≤ 4000 ∧ badI s < 0 ∧ lexL s.data.toList = .inl ts := by
  unfold lexB at h
  split at h
  · cases h
  split at h
  · cases h
  · exact ⟨by omega, by omega, h⟩
theorem lexB_plcs {s : ByteArray} {ts : List Tkn} (h : lexB s = .inl ts) : plcs s.data.toList 0 ts := by
  have h2 := (lexB_ok h).2.2
  unfold lexL at h2
  exact lexF_plcs s.data.toList (s.data.toList.length + 1) 0 0 false ts 0 (by rw [List.drop_zero]; exact h2) (Nat.le_refl _)
theorem lexB_len {s : ByteArray} {ts : List Tkn} (h : lexB s = .inl ts) : ts.length ≤ s.size := by
  have := plcs_len _ _ _ (lexB_plcs h) (Nat.zero_le _)
  rw [← Lib.size_eq] at this
  omega
end Go.Proofs.YtejniiehfangkaaGreatDoor
