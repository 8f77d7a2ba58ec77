/- What stands behind a sign 5c: number, numbered, escaped; noRuneAt. -/
import Derived.Test.YtejniiehfangkaaGreatDoorPNum
import Derived.Deep.QuietTactic
import Derived.BigQuiet
set_option linter.unusedVariables false
set_option linter.unusedSimpArgs false
namespace Go.Proofs.YtejniiehfangkaaGreatDoor
open Go.RowKit
/-- The variable strconv.ErrSyntax holds a value of an interface's type. -/
def ErrV (w : World) : Prop := ∃ te pe, w.cell? ⟨0, 0, none⟩ = some (.iface te pe)
theorem cell_lt {w : World} {p : Addr} {v : Value} (h : w.cell? p = some v) : p.block < w.heap.size := by
  rcases Nat.lt_or_ge p.block w.heap.size with hl | hl
  · exact hl
  · unfold World.cell? at h
    rw [Array.getElem?_eq_none hl] at h
    cases h
theorem ErrV.go {w w' : World} (h : ErrV w) (hb : Below w.heap.size w w') : ErrV w' := by
  obtain ⟨te, pe, h⟩ := h
  exact ⟨te, pe, (hb.cell (p := ⟨0, 0, none⟩) (cell_lt h)).trans h⟩
theorem parse_yes (t : ByteArray) (ht1 : t.size ≤ 4) (ht2 : 4 ≤ t.size) (h : is4 t 0 = true) (w : World) : Calls Tryz.prog 115 #[.string t, .int .i64 16, .int .i64 16] w fun e w' => e = .returned (.tuple #[.int .u64 (v4 t 0), .nilIface]) ∧ Below w.heap.size w w' := by
  have hk := parse_in t ht1 ht2 w
  unfold parsE at hk
  rw [if_pos h] at hk
  have HK := Lib.hid hk
  clear hk h
  generalize v4 t 0 = V at *
  go_enter Tryz.func115, Tryz.ntmps115
  go_wp2_with fail
  refine HK.out.mono ?_
  rintro e w1 ⟨rfl, hb1⟩
  go_wp2_with fail
  go_ret2
  exact ⟨rfl, hb1⟩
theorem parse_no (t : ByteArray) (ht1 : t.size ≤ 4) (ht2 : 4 ≤ t.size) (h : is4 t 0 = false) (w : World) (hE : ErrV w) : Calls Tryz.prog 115 #[.string t, .int .i64 16, .int .i64 16] w fun e w' => ∃ N, e = .returned (.tuple #[.int .u64 0, .iface 107 (.pointer (some ⟨N, 0, none⟩))]) ∧ Below w.heap.size w w' := by
  have hk := parse_in t ht1 ht2 w
  unfold parsE at hk
  rw [h] at hk
  have HK := Lib.hid hk
  have HE := Lib.hid hE
  clear hk h hE
  go_enter Tryz.func115, Tryz.ntmps115
  go_wp2_with fail
  refine HK.out.mono ?_
  rintro e w1 ⟨he, hb1⟩
  simp only [Bool.false_eq_true, if_false] at he
  subst he
  obtain ⟨te, pe, hv⟩ := HE.out.go hb1
  have HV := Lib.hid hv
  clear hv
  go_wp2_with fail
  refine (Tryz.strconv_toError_syntax _ t 16 16 (.iface te pe) _ (by omega) HV.out (.inr ⟨te, pe, rfl⟩)).mono ?_
  rintro e w2 ⟨N, rfl, _, _, hb2⟩
  go_wp2_with fail
  go_ret2
  exact ⟨N, rfl, hb1.trans (hb2.mono hb1.size)⟩
theorem ext_get (s : ByteArray) (a b k : Nat) (h : a + k < b) (h2 : b ≤ s.size) : (s.extract a b).get! k = s.get! (a + k) := by
  have h1 : k < (s.extract a b).size := by rw [ByteArray.size_extract]; omega
  rw [get_bang _ k h1, get_bang s (a + k) (by omega)]
  exact ByteArray.getElem_extract ..
theorem ext_is4 (s : ByteArray) (a b i : Nat) (h : a + i + 4 ≤ b) (h2 : b ≤ s.size) : is4 (s.extract a b) i = is4 s (a + i) ∧ v4 (s.extract a b) i = v4 s (a + i) := by
  have g : ∀ k, k < 4 → g4 (s.extract a b) i k = g4 s (a + i) k := fun k hk => by
    unfold g4; rw [ext_get s a b (i + k) (by omega) h2, Nat.add_assoc]
  unfold is4 v4
  rw [g 0 (by omega), g 1 (by omega), g 2 (by omega), g 3 (by omega), ByteArray.size_extract]
  refine ⟨?_, rfl⟩
  rw [show (decide (i + 4 ≤ min b s.size - a)) = decide (a + i + 4 ≤ s.size) by rw [decide_eq_decide]; omega]
theorem pre2 (s : ByteArray) (h : 2 ≤ s.size) : ((s.extract 0 2).toList == ([92, 117] : List UInt8)) = (((s.get! 0).toNat == 92) && ((s.get! 1).toNat == 117)) := by
  have e : (s.extract 0 2).toList = [s.get! 0, s.get! 1] := by
    rw [Lib.toList_data, Lib.extract_data, drop_cons s 0 (by omega), drop_cons s (0 + 1) (by omega)]
    rfl
  rw [e, Bool.eq_iff_iff]
  simp only [beq_iff_eq, List.cons.injEq, and_true, Bool.and_eq_true]
  constructor
  · rintro ⟨a, b⟩; rw [a, b]; exact ⟨rfl, rfl⟩
  · rintro ⟨a, b⟩; exact ⟨UInt8.toNat_inj.1 a, UInt8.toNat_inj.1 b⟩
set_option maxHeartbeats 1000000 in
theorem number_short (s : ByteArray) (hs : s.size < 6) (w : World) : Calls Tryz.prog 101 #[.string s] w fun e w' => e = .returned (.tuple #[.int .i32 0, .bool false]) ∧ Below w.heap.size w w' := by
  go_enter Tryz.func101, Tryz.ntmps101
  go_wp2_with fail
  go_ret2
  exact ⟨rfl, Below.refl _ _⟩
set_option maxHeartbeats 1000000 in
theorem number_pre (s : ByteArray) (hs : s.size ≤ 1048576) (h6 : 6 ≤ s.size) (hp : ((s.extract 0 2).toList == ([92, 117] : List UInt8)) = false) (w : World) : Calls Tryz.prog 101 #[.string s] w fun e w' => e = .returned (.tuple #[.int .i32 0, .bool false]) ∧ Below w.heap.size w w' := by
  have h6' : ¬ (s.size : Int) < 6 := by omega
  clear h6
  go_enter Tryz.func101, Tryz.ntmps101
  go_wp2_with fail
  go_ret2
  exact ⟨rfl, Below.refl _ _⟩
theorem below_drewN {B n : Nat} {a w : World} (h : Below B a w) : Below B a (w.drewN n) := h.trans ⟨rfl, rfl, rfl, Nat.le_refl _, fun _ _ => rfl⟩
set_option maxHeartbeats 1000000 in
theorem number_bad (s : ByteArray) (hs : s.size ≤ 1048576) (h6 : 6 ≤ s.size) (hp : ((s.extract 0 2).toList == ([92, 117] : List UInt8)) = true) (h4 : is4 s 2 = false) (w : World) (hE : ErrV w) : Calls Tryz.prog 101 #[.string s] w fun e w' => e = .returned (.tuple #[.int .i32 0, .bool false]) ∧ Below w.heap.size w w' := by
  have HP := Lib.hid (parse_no (s.extract 2 6) (by rw [ByteArray.size_extract]; omega) (by rw [ByteArray.size_extract]; omega) (by rw [(ext_is4 s 2 6 0 (by omega) h6).1]; exact h4) w hE)
  have h6' : ¬ (s.size : Int) < 6 := by omega
  clear h6 h4 hE
  go_enter Tryz.func101, Tryz.ntmps101
  go_wp2_with fail
  refine HP.out.mono ?_
  rintro e w1 ⟨N, rfl, hb1⟩
  go_wp2_with fail
  go_quiet (fail)
  go_wp2
  go_ret2
  exact ⟨rfl, below_drewN hb1⟩
set_option maxHeartbeats 1000000 in
theorem number_yes (s : ByteArray) (hs : s.size ≤ 1048576) (h6 : 6 ≤ s.size) (hp : ((s.extract 0 2).toList == ([92, 117] : List UInt8)) = true) (h4 : is4 s 2 = true) (w : World) : Calls Tryz.prog 101 #[.string s] w fun e w' => e = .returned (.tuple #[.int .i32 (v4 s 2), .bool true]) ∧ Below w.heap.size w w' := by
  have hx := ext_is4 s 2 6 0 (by omega) h6
  have hq := parse_yes (s.extract 2 6) (by rw [ByteArray.size_extract]; omega) (by rw [ByteArray.size_extract]; omega) (by rw [hx.1]; exact h4) w
  rw [hx.2] at hq
  have hv := v4_lt s 2 h4
  have HP := Lib.hid hq
  have h6' : ¬ (s.size : Int) < 6 := by omega
  clear h6 h4 hx hq
  simp only [Nat.add_zero] at HP
  generalize v4 s 2 = V at *
  go_enter Tryz.func101, Tryz.ntmps101
  go_wp2_with fail
  refine HP.out.mono ?_
  rintro e w1 ⟨rfl, hb1⟩
  go_wp2_with fail
  go_quiet (fail)
  go_wp2
  go_ret2
  exact ⟨rfl, below_drewN hb1⟩
theorem isU_split (s : ByteArray) (h6 : 6 ≤ s.size) : isU s 0 = (is4 s 2 && ((s.extract 0 2).toList == ([92, 117] : List UInt8))) := by
  rw [pre2 s (by omega)]; unfold isU; rw [Bool.and_assoc]
theorem number_t (s : ByteArray) (hs : s.size ≤ 1048576) (hU : isU s 0 = true) (w : World) : Calls Tryz.prog 101 #[.string s] w fun e w' => e = .returned (.tuple #[.int .i32 (v4 s 2), .bool true]) ∧ Below w.heap.size w w' := by
  have h6 := (isU_in s 0 hU).1
  rw [isU_split s (by omega), Bool.and_eq_true] at hU
  exact number_yes s hs (by omega) hU.2 hU.1 w
theorem number_f (s : ByteArray) (hs : s.size ≤ 1048576) (hU : isU s 0 = false) (w : World) (hE : ErrV w) : Calls Tryz.prog 101 #[.string s] w fun e w' => e = .returned (.tuple #[.int .i32 0, .bool false]) ∧ Below w.heap.size w w' := by
  by_cases h6 : s.size < 6
  · exact number_short s h6 w
  · rw [isU_split s (by omega), Bool.and_eq_false_iff] at hU
    cases hp : ((s.extract 0 2).toList == ([92, 117] : List UInt8))
    · exact number_pre s hs (by omega) hp w
    · exact number_bad s hs (by omega) hp (hU.resolve_right (by rw [hp]; simp)) w hE
theorem ext_isU (s : ByteArray) (a i : Nat) (h : a ≤ s.size) : isU (s.extract a s.size) i = isU s (a + i) ∧ (isU s (a + i) = true → v4 (s.extract a s.size) (i + 2) = v4 s (a + i + 2)) := by
  by_cases h6 : a + i + 6 ≤ s.size
  · have h4 := ext_is4 s a s.size (i + 2) (by omega) (Nat.le_refl _)
    rw [show a + (i + 2) = a + i + 2 by omega] at h4
    refine ⟨?_, fun _ => h4.2⟩
    unfold isU
    rw [h4.1, ext_get s a s.size i (by omega) (Nat.le_refl _), ext_get s a s.size (i + 1) (by omega) (Nat.le_refl _), Nat.add_assoc a i 1]
  · have f1 : isU s (a + i) = false := by
      rw [Bool.eq_false_iff]; intro hh; exact h6 (by have := (isU_in s _ hh).1; omega)
    have f2 : isU (s.extract a s.size) i = false := by
      rw [Bool.eq_false_iff]; intro hh; have := (isU_in _ i hh).1; rw [ByteArray.size_extract] at this; omega
    rw [f1, f2]; exact ⟨rfl, fun h => by cases h⟩
def numE (s : ByteArray) : Ending := .returned (.tuple #[.int .i32 (numR s 0).1, .int .i64 (numR s 0).2])
theorem numE_none (s : ByteArray) (h : numR s 0 = (0, 0)) : numE s = .returned (.tuple #[.int .i32 0, .int .i64 0]) := by unfold numE; rw [h]; rfl
theorem numE_some (s : ByteArray) (r n : Nat) (z : Int) (h : numR s 0 = (r, n)) (hz : z = r) : numE s = .returned (.tuple #[.int .i32 z, .int .i64 n]) := by unfold numE; rw [h, hz]
set_option maxHeartbeats 1000000 in
theorem numbered_any (s : ByteArray) (hs : s.size ≤ 1048576) (w : World) (hE : ErrV w) : Calls Tryz.prog 82 #[.string s] w fun e w' => e = numE s ∧ Below w.heap.size w w' := by
  cases hU : isU s 0
  · have HN := Lib.hid (numE_none s (by unfold numR; rw [hU]; exact if_neg (by decide)))
    have HK := Lib.hid (number_f s hs hU w hE)
    clear hU hE
    go_enter Tryz.func82, Tryz.ntmps82
    go_wp2_with fail
    refine HK.out.mono ?_
    rintro e w1 ⟨rfl, hb1⟩
    go_wp2_with fail
    go_ret2
    exact ⟨HN.out.symm, hb1⟩
  · have hk := number_t s hs hU w
    have h6 := (isU_in s 0 hU).1
    have hv := v4_lt s 2 (by simp only [isU, Bool.and_eq_true] at hU; exact hU.1.1)
    have hn : numR s 0 = if v4 s 2 < 55296 ∨ 57343 < v4 s 2 then (v4 s 2, 6) else if 56319 < v4 s 2 then (0, 0) else if isU s 6 then (if v4 s 8 < 56320 ∨ 57343 < v4 s 8 then (0, 0) else (65536 + (v4 s 2 - 55296) * 1024 + (v4 s 8 - 56320), 12)) else (0, 0) := by
      unfold numR; rw [if_pos hU]
    have hx := ext_isU s 6 0 (by omega)
    simp only [Nat.add_zero, Nat.zero_add] at hx
    have HE := Lib.hid hE
    obtain ⟨z, hz⟩ : ∃ z : Int, z = (v4 s 2 : Int) := ⟨_, rfl⟩
    rw [← hz] at hk
    have HK := Lib.hid hk
    have hz0 : 0 ≤ z := by omega
    have hz1 : z < 65536 := by omega
    by_cases c1 : z < 55296
    · have HN := Lib.hid (numE_some s (v4 s 2) 6 z (by rw [hn, if_pos (by omega)]) hz)
      clear hU hE hk hn hx hv hz h6
      go_enter Tryz.func82, Tryz.ntmps82
      go_wp2_with fail
      refine HK.out.mono ?_
      rintro e w1 ⟨rfl, hb1⟩
      go_wp2_with fail
      go_ret2
      exact ⟨HN.out.symm, hb1⟩
    by_cases c2 : 57343 < z
    · have HN := Lib.hid (numE_some s (v4 s 2) 6 z (by rw [hn, if_pos (by omega)]) hz)
      clear hU hE hk hn hx hv hz h6
      go_enter Tryz.func82, Tryz.ntmps82
      go_wp2_with fail
      refine HK.out.mono ?_
      rintro e w1 ⟨rfl, hb1⟩
      go_wp2_with fail
      go_ret2
      exact ⟨HN.out.symm, hb1⟩
    by_cases c3 : 56319 < z
    · have HN := Lib.hid (numE_none s (by rw [hn, if_neg (by omega), if_pos (by omega)]))
      clear hU hE hk hn hx hv hz h6
      go_enter Tryz.func82, Tryz.ntmps82
      go_wp2_with fail
      refine HK.out.mono ?_
      rintro e w1 ⟨rfl, hb1⟩
      go_wp2_with fail
      go_ret2
      exact ⟨HN.out.symm, hb1⟩
    have hn2 : numR s 0 = if isU s 6 then (if v4 s 8 < 56320 ∨ 57343 < v4 s 8 then (0, 0) else (65536 + (v4 s 2 - 55296) * 1024 + (v4 s 8 - 56320), 12)) else (0, 0) := by
      rw [hn, if_neg (by omega), if_neg (by omega)]
    have hs6 : (s.extract 6 s.size).size ≤ 1048576 := by rw [ByteArray.size_extract]; omega
    have h6s : 6 ≤ s.size := by omega
    cases hU6 : isU s 6
    · have HN := Lib.hid (numE_none s (by rw [hn2, hU6]; exact if_neg (by decide)))
      have HK2 := Lib.hid (fun W h => number_f (s.extract 6 s.size) hs6 (by rw [hx.1]; exact hU6) W h)
      clear hU hE hk hn hn2 hx hv hz hU6 h6
      go_enter Tryz.func82, Tryz.ntmps82
      go_wp2_with fail
      refine HK.out.mono ?_
      rintro e w1 ⟨rfl, hb1⟩
      go_wp2_with fail
      refine (HK2.out _ (HE.out.go hb1)).mono ?_
      rintro e w2 ⟨rfl, hb2⟩
      go_wp2_with fail
      go_ret2
      exact ⟨HN.out.symm, hb1.trans (hb2.mono hb1.size)⟩
    · have hk2 := fun W => number_t (s.extract 6 s.size) hs6 (by rw [hx.1]; exact hU6) W
      rw [hx.2 hU6] at hk2
      have hn3 : numR s 0 = if v4 s 8 < 56320 ∨ 57343 < v4 s 8 then (0, 0) else (65536 + (v4 s 2 - 55296) * 1024 + (v4 s 8 - 56320), 12) := by rw [hn2, hU6]; exact if_pos rfl
      have hv8 := v4_lt s 8 (by simp only [isU, Bool.and_eq_true] at hU6; exact hU6.1.1)
      obtain ⟨y, hy⟩ : ∃ y : Int, y = (v4 s 8 : Int) := ⟨_, rfl⟩
      rw [← hy] at hk2
      have HK2 := Lib.hid hk2
      have hy0 : 0 ≤ y := by omega
      have hy1 : y < 65536 := by omega
      by_cases d1 : y < 56320
      · have HN := Lib.hid (numE_none s (by rw [hn3, if_pos (by omega)]))
        clear hU hE hk hn hn2 hn3 hx hv hz hU6 h6 hv8 hy hk2
        go_enter Tryz.func82, Tryz.ntmps82
        go_wp2_with fail
        refine HK.out.mono ?_
        rintro e w1 ⟨rfl, hb1⟩
        go_wp2_with fail
        refine (HK2.out _).mono ?_
        rintro e w2 ⟨rfl, hb2⟩
        go_wp2_with fail
        go_ret2
        exact ⟨HN.out.symm, hb1.trans (hb2.mono hb1.size)⟩
      by_cases d2 : 57343 < y
      · have HN := Lib.hid (numE_none s (by rw [hn3, if_pos (by omega)]))
        clear hU hE hk hn hn2 hn3 hx hv hz hU6 h6 hv8 hy hk2
        go_enter Tryz.func82, Tryz.ntmps82
        go_wp2_with fail
        refine HK.out.mono ?_
        rintro e w1 ⟨rfl, hb1⟩
        go_wp2_with fail
        refine (HK2.out _).mono ?_
        rintro e w2 ⟨rfl, hb2⟩
        go_wp2_with fail
        go_ret2
        exact ⟨HN.out.symm, hb1.trans (hb2.mono hb1.size)⟩
      · have HN := Lib.hid (numE_some s _ 12 (65536 + (z - 55296) * 1024 + (y - 56320)) (by rw [hn3, if_neg (by omega)]) (by omega))
        clear hU hE hk hn hn2 hn3 hx hv hz hU6 h6 hv8 hy hk2
        go_enter Tryz.func82, Tryz.ntmps82
        go_wp2_with fail
        refine HK.out.mono ?_
        rintro e w1 ⟨rfl, hb1⟩
        go_wp2_with fail
        refine (HK2.out _).mono ?_
        rintro e w2 ⟨rfl, hb2⟩
        go_wp2_with fail
        go_ret2
        exact ⟨HN.out.symm, hb1.trans (hb2.mono hb1.size)⟩
end Go.Proofs.YtejniiehfangkaaGreatDoor
