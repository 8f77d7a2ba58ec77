/- What takes as many as a rule says: the closure, with each of the plain rules. -/
import Derived.Test.YtejniiehfangkaaGreatDoorKPlain
import Derived.Test.YtejniiehfangkaaGreatDoorBase
import Derived.Lib.BufferMore
import Derived.Lib.Builder
import Derived.Lib.Bytes2
set_option linter.unusedVariables false
set_option linter.unusedSimpArgs false
namespace Go.Proofs.YtejniiehfangkaaGreatDoor
open Go.RowKit
/-- All is kept but block N. -/
structure Kp (N : Nat) (w w' : World) : Prop where
  bel : Below N w w'
  size : w.heap.size ≤ w'.heap.size
  block : ∀ k, k ≠ N → k < w.heap.size → w'.heap[k]? = w.heap[k]?
theorem Kp.refl (N : Nat) (w : World) : Kp N w w := ⟨Below.refl _ _, Nat.le_refl _, fun _ _ _ => rfl⟩
theorem Kp.trans {N : Nat} {a b c : World} (h : Kp N a b) (k : Kp N b c) : Kp N a c :=
  ⟨h.bel.trans k.bel, Nat.le_trans h.size k.size, fun j hj hl => (k.block j hj (Nat.lt_of_lt_of_le hl h.size)).trans (h.block j hj hl)⟩
theorem Kp.of_below {N : Nat} {w w' : World} (h : Below w.heap.size w w') (hN : N < w.heap.size) : Kp N w w' := ⟨h.mono (by omega), h.size, fun k _ hk => h.block k hk⟩
theorem Kp.setN {N o : Nat} {a w : World} (h : Kp N a w) (v : Value) : Kp N a (w.setCell ⟨N, o, none⟩ v) :=
  ⟨h.bel.setCell (Nat.le_refl _) v, by rw [World.size_setCell]; exact h.size, fun k hk hl => by rw [Below.heap_setCell _ _ _ _ hk]; exact h.block k hk hl⟩
theorem Kp.drewN {N : Nat} {a w : World} (h : Kp N a w) (n : Nat) : Kp N a (w.drewN n) := ⟨⟨h.bel.os, h.bel.tape, h.bel.output, h.bel.size, h.bel.block⟩, h.size, h.block⟩
theorem Kp.drew {N : Nat} {a w : World} (h : Kp N a w) : Kp N a w.drew := ⟨⟨h.bel.os, h.bel.tape, h.bel.output, h.bel.size, h.bel.block⟩, h.size, h.block⟩
/-- A variable of its own. -/
def One (w : World) (R : Nat) (t : TypeId) (v : Value) : Prop := w.heap[R]? = some (.cells #[v] t (0, 0))
theorem One.lt {w : World} {R : Nat} {t : TypeId} {v : Value} (h : One w R t v) : R < w.heap.size := (Array.getElem?_eq_some_iff.1 h).1
theorem One.c {w : World} {R : Nat} {t : TypeId} {v : Value} (h : One w R t v) : w.cell? ⟨R, 0, none⟩ = some v := Lib.cell_of_heap h 0
theorem One.f {w : World} {R : Nat} {t : TypeId} {v : Value} (h : One w R t v) : w.frozen? ⟨R, 0, none⟩ = false := Lib.frozen_of_heap h 0
theorem One.set {w : World} {R : Nat} {t : TypeId} {v : Value} (h : One w R t v) (u : Value) : One (w.setCell ⟨R, 0, none⟩ u) R t u := Lib.heap_setCell_same (i := 0) h _
theorem One.kp {w w' : World} {R N : Nat} {t : TypeId} {v : Value} (h : One w R t v) (hk : Kp N w w') (hn : R ≠ N) : One w' R t v := (hk.block R hn h.lt).trans h
theorem One.below {w w' : World} {R : Nat} {t : TypeId} {v : Value} (h : One w R t v) (hb : Below w.heap.size w w') : One w' R t v := (hb.block R h.lt).trans h
theorem taker_any (s : ByteArray) (w : World) : Calls Tryz.prog 33 #[.string s] w fun e w' => e = .returned (.func (.func 53) #[] #[.pointer (some ⟨w.heap.size, 0, none⟩)]) ∧ w.alloc (.cells #[.string s] 9) = w' := by
  have hmf : ∀ (fn : Fn) (first cap : Array Value) (w : World), (Instr.makeFunc fn first cap).run Tryz.prog w = .ok (.func fn first cap) w := fun _ _ _ _ => rfl
  go_enter Tryz.func33, Tryz.ntmps33
  go_wp2
  go_ret
  exact ⟨rfl, rfl⟩
/-! ### the rules -/
theorem isDigit_any (r : Int) (w : World) : Calls Tryz.prog 54 #[.int .u8 r] w fun e w' => e = .returned (.bool (isD r)) ∧ w = w' := by
  go_enter Tryz.func54, Tryz.ntmps54
  go_wp2
  all_goals
    go_ret
    refine ⟨ret_bool ?_, rfl⟩
    unfold isD; rw [Bool.eq_iff_iff]; simp; try omega
theorem isMinus_any (r : Int) (w : World) : Calls Tryz.prog 57 #[.int .u8 r] w fun e w' => e = .returned (.bool (r == 45)) ∧ w = w' := by
  go_enter Tryz.func57, Tryz.ntmps57
  go_wp2
  all_goals
    go_ret
    exact ⟨rfl, rfl⟩
theorem inName_any (r : Int) (w : World) : Calls Tryz.prog 35 #[.int .u8 r] w fun e w' => e = .returned (.bool (isL r || isD r)) ∧ w = w' := by
  by_cases hL : isL r = true
  · have hl := hL
    unfold isL at hl
    simp at hl
    rw [hL]
    clear hL
    go_enter Tryz.func35, Tryz.ntmps35
    rcases hl with ((⟨h1, h2⟩ | ⟨h1, h2⟩) | h1)
    · go_wp2_with fail
      go_ret
      exact ⟨rfl, rfl⟩
    · go_wp2_with fail
      go_ret
      exact ⟨rfl, rfl⟩
    · subst h1
      go_wp2_with fail
      go_ret
      exact ⟨rfl, rfl⟩
  · have hl := hL
    unfold isL at hl
    simp at hl
    rw [show isL r = false by simpa using hL, Bool.false_or]
    have H := Lib.hid (isDigit_any r)
    have e95 : (r == 95) = false := by simpa using hl.2
    clear hL
    generalize isD r = D at *
    go_enter Tryz.func35, Tryz.ntmps35
    by_cases a : 97 ≤ r
    · have a2 : ¬ r ≤ 122 := by omega
      by_cases b : 65 ≤ r
      · have b2 : ¬ r ≤ 90 := by omega
        clear hl
        go_wp2_with fail
        refine (H.out w).mono ?_
        rintro e w1 ⟨rfl, rfl⟩
        go_wp2_with fail
        go_ret
        exact ⟨rfl, rfl⟩
      · omega
    · by_cases b : 65 ≤ r
      · have b2 : ¬ r ≤ 90 := by omega
        clear hl
        go_wp2_with fail
        refine (H.out w).mono ?_
        rintro e w1 ⟨rfl, rfl⟩
        go_wp2_with fail
        go_ret
        exact ⟨rfl, rfl⟩
      · clear hl
        go_wp2_with fail
        refine (H.out w).mono ?_
        rintro e w1 ⟨rfl, rfl⟩
        go_wp2_with fail
        go_ret
        exact ⟨rfl, rfl⟩
theorem tk_step {p : UInt8 → Bool} {s : ByteArray} {k : Nat} (h : k < s.size) (hp : p (s.get! k) = true) : tk p (s.data.toList.drop k) = tk p (s.data.toList.drop (k + 1)) + 1 := by
  rw [drop_cons s k h]
  conv => lhs; unfold tk
  rw [if_pos hp]
theorem tk_end {p : UInt8 → Bool} {s : ByteArray} {k : Nat} (h : ¬ k < s.size) : tk p (s.data.toList.drop k) = 0 := by
  rw [List.drop_of_length_le (by rw [← Lib.size_eq]; omega)]; rfl
theorem tk_no {p : UInt8 → Bool} {s : ByteArray} {k : Nat} (h : k < s.size) (hp : p (s.get! k) = false) : tk p (s.data.toList.drop k) = 0 := by
  rw [drop_cons s k h]; unfold tk; rw [hp]; rfl
/-! ### as many as there are -/
def TkP (p : UInt8 → Bool) (x : ByteArray) (R : Nat) (w : World) (e : Ending) (w' : World) : Prop :=
  e = .returned (.string (x.extract 0 (tk p x.data.toList))) ∧ One w' R 9 (.string (x.extract (tk p x.data.toList) x.size)) ∧ Kp R w w'
set_option maxHeartbeats 1000000 in
set_option maxRecDepth 100000 in
theorem take_dg (x : ByteArray) (R : Nat) (w : World) (hR : One w R 9 (.string x)) (hs : x.size ≤ 1000000) : Calls Tryz.prog 53 #[.func (.func 54) #[] #[], .pointer (some ⟨R, 0, none⟩)] w (TkP dgB x R w) := by
  have HR := Lib.hid hR
  have HL := Lib.hid (tk_le dgB x.data.toList)
  obtain ⟨N, hN⟩ : ∃ N, tk dgB x.data.toList = N := ⟨_, rfl⟩
  have HN := Lib.hid hN
  rw [hN, ← Lib.size_eq] at HL
  have hNs : N ≤ x.size := HL.out
  clear hR hN HL
  go_enter Tryz.func53, Tryz.ntmps53
  go_wp2_with fail
  go_loopw [4] (fun v wr => ∃ k : Nat, v = .int .i64 (k : Nat) ∧ k ≤ N ∧ One wr R 9 (.string x) ∧ Kp R w wr ∧ k + tk dgB (x.data.toList.drop k) = N) (fun v _ => x.size - (intOf v).toNat)
  case atStart => exact ⟨0, rfl, Nat.zero_le _, HR.out, Kp.refl _ _, by rw [List.drop_zero, Nat.zero_add]; exact HN.out⟩
  case round =>
    obtain ⟨k, rfl, hk, hO, hK, hT⟩ := hrel
    have c0 := hO.c
    have f0 := hO.f
    have HO := Lib.hid hO
    have HK := Lib.hid hK
    have HT := Lib.hid hT
    clear hO hK hT
    by_cases hlt : k < x.size
    · have hgb := get_bang x k hlt
      cases hp : dgB (x.get! k)
      · have HE : Hid (k = N) := Lib.hid (by have := HT.out; rw [tk_no hlt hp] at this; exact this)
        have KD : Hid (Calls Tryz.prog 54 #[.int .u8 (x[k]'hlt).toNat] wr fun e w' => e = .returned (.bool false) ∧ wr = w') := Lib.hid ((isDigit_any _ _).mono (by rintro e w' ⟨rfl, rfl⟩; rw [hgb] at hp; exact ⟨ret_bool hp, rfl⟩))
        clear hgb hp
        go_wp2_with fail
        refine KD.out.mono ?_
        rintro e w1 ⟨rfl, rfl⟩
        clear KD
        go_wp2_with fail
        go_ret
        have hE := HE.out
        subst hE
        have hX : x.data.toList.length = x.size := (Lib.size_eq x).symm
        refine ⟨?_, ?_, HK.out.setN _⟩
        · first | (rw [HN.out]; done) | (rw [HN.out]; rfl)
        · rw [HN.out]; exact One.set HO.out _
      · have HS := Lib.hid (tk_step (p := dgB) hlt hp)
        have KD : Hid (Calls Tryz.prog 54 #[.int .u8 (x[k]'hlt).toNat] wr fun e w' => e = .returned (.bool true) ∧ wr = w') := Lib.hid ((isDigit_any _ _).mono (by rintro e w' ⟨rfl, rfl⟩; rw [hgb] at hp; exact ⟨ret_bool hp, rfl⟩))
        clear hgb hp
        go_wp2_with fail
        refine KD.out.mono ?_
        rintro e w1 ⟨rfl, rfl⟩
        clear KD
        go_wp2_with fail
        have hT := HT.out
        rw [HS.out] at hT
        exact ⟨⟨k + 1, by go_num, by omega, HO.out, HK.out, by omega⟩, by simp [intOf]; omega⟩
    · have HE : Hid (k = N) := Lib.hid (by have := HT.out; rw [tk_end hlt] at this; exact this)
      go_wp2_with fail
      go_ret
      have hE := HE.out
      subst hE
      refine ⟨?_, ?_, HK.out.setN _⟩
      · first | (rw [HN.out]; done) | (rw [HN.out]; rfl)
      · rw [HN.out]; exact One.set HO.out _
set_option maxHeartbeats 1000000 in
set_option maxRecDepth 100000 in
theorem take_mn (x : ByteArray) (R : Nat) (w : World) (hR : One w R 9 (.string x)) (hs : x.size ≤ 1000000) : Calls Tryz.prog 53 #[.func (.func 57) #[] #[], .pointer (some ⟨R, 0, none⟩)] w (TkP mnB x R w) := by
  have HR := Lib.hid hR
  have HL := Lib.hid (tk_le mnB x.data.toList)
  obtain ⟨N, hN⟩ : ∃ N, tk mnB x.data.toList = N := ⟨_, rfl⟩
  have HN := Lib.hid hN
  rw [hN, ← Lib.size_eq] at HL
  have hNs : N ≤ x.size := HL.out
  clear hR hN HL
  go_enter Tryz.func53, Tryz.ntmps53
  go_wp2_with fail
  go_loopw [4] (fun v wr => ∃ k : Nat, v = .int .i64 (k : Nat) ∧ k ≤ N ∧ One wr R 9 (.string x) ∧ Kp R w wr ∧ k + tk mnB (x.data.toList.drop k) = N) (fun v _ => x.size - (intOf v).toNat)
  case atStart => exact ⟨0, rfl, Nat.zero_le _, HR.out, Kp.refl _ _, by rw [List.drop_zero, Nat.zero_add]; exact HN.out⟩
  case round =>
    obtain ⟨k, rfl, hk, hO, hK, hT⟩ := hrel
    have c0 := hO.c
    have f0 := hO.f
    have HO := Lib.hid hO
    have HK := Lib.hid hK
    have HT := Lib.hid hT
    clear hO hK hT
    by_cases hlt : k < x.size
    · have hgb := get_bang x k hlt
      cases hp : mnB (x.get! k)
      · have HE : Hid (k = N) := Lib.hid (by have := HT.out; rw [tk_no hlt hp] at this; exact this)
        have KD : Hid (Calls Tryz.prog 57 #[.int .u8 (x[k]'hlt).toNat] wr fun e w' => e = .returned (.bool false) ∧ wr = w') := Lib.hid ((isMinus_any _ _).mono (by rintro e w' ⟨rfl, rfl⟩; rw [hgb] at hp; exact ⟨ret_bool hp, rfl⟩))
        clear hgb hp
        go_wp2_with fail
        refine KD.out.mono ?_
        rintro e w1 ⟨rfl, rfl⟩
        clear KD
        go_wp2_with fail
        go_ret
        have hE := HE.out
        subst hE
        have hX : x.data.toList.length = x.size := (Lib.size_eq x).symm
        refine ⟨?_, ?_, HK.out.setN _⟩
        · first | (rw [HN.out]; done) | (rw [HN.out]; rfl)
        · rw [HN.out]; exact One.set HO.out _
      · have HS := Lib.hid (tk_step (p := mnB) hlt hp)
        have KD : Hid (Calls Tryz.prog 57 #[.int .u8 (x[k]'hlt).toNat] wr fun e w' => e = .returned (.bool true) ∧ wr = w') := Lib.hid ((isMinus_any _ _).mono (by rintro e w' ⟨rfl, rfl⟩; rw [hgb] at hp; exact ⟨ret_bool hp, rfl⟩))
        clear hgb hp
        go_wp2_with fail
        refine KD.out.mono ?_
        rintro e w1 ⟨rfl, rfl⟩
        clear KD
        go_wp2_with fail
        have hT := HT.out
        rw [HS.out] at hT
        exact ⟨⟨k + 1, by go_num, by omega, HO.out, HK.out, by omega⟩, by simp [intOf]; omega⟩
    · have HE : Hid (k = N) := Lib.hid (by have := HT.out; rw [tk_end hlt] at this; exact this)
      go_wp2_with fail
      go_ret
      have hE := HE.out
      subst hE
      refine ⟨?_, ?_, HK.out.setN _⟩
      · first | (rw [HN.out]; done) | (rw [HN.out]; rfl)
      · rw [HN.out]; exact One.set HO.out _
set_option maxHeartbeats 1000000 in
set_option maxRecDepth 100000 in
theorem take_nm (x : ByteArray) (R : Nat) (w : World) (hR : One w R 9 (.string x)) (hs : x.size ≤ 1000000) : Calls Tryz.prog 53 #[.func (.func 35) #[] #[], .pointer (some ⟨R, 0, none⟩)] w (TkP nmB x R w) := by
  have HR := Lib.hid hR
  have HL := Lib.hid (tk_le nmB x.data.toList)
  obtain ⟨N, hN⟩ : ∃ N, tk nmB x.data.toList = N := ⟨_, rfl⟩
  have HN := Lib.hid hN
  rw [hN, ← Lib.size_eq] at HL
  have hNs : N ≤ x.size := HL.out
  clear hR hN HL
  go_enter Tryz.func53, Tryz.ntmps53
  go_wp2_with fail
  go_loopw [4] (fun v wr => ∃ k : Nat, v = .int .i64 (k : Nat) ∧ k ≤ N ∧ One wr R 9 (.string x) ∧ Kp R w wr ∧ k + tk nmB (x.data.toList.drop k) = N) (fun v _ => x.size - (intOf v).toNat)
  case atStart => exact ⟨0, rfl, Nat.zero_le _, HR.out, Kp.refl _ _, by rw [List.drop_zero, Nat.zero_add]; exact HN.out⟩
  case round =>
    obtain ⟨k, rfl, hk, hO, hK, hT⟩ := hrel
    have c0 := hO.c
    have f0 := hO.f
    have HO := Lib.hid hO
    have HK := Lib.hid hK
    have HT := Lib.hid hT
    clear hO hK hT
    by_cases hlt : k < x.size
    · have hgb := get_bang x k hlt
      cases hp : nmB (x.get! k)
      · have HE : Hid (k = N) := Lib.hid (by have := HT.out; rw [tk_no hlt hp] at this; exact this)
        have KD : Hid (Calls Tryz.prog 35 #[.int .u8 (x[k]'hlt).toNat] wr fun e w' => e = .returned (.bool false) ∧ wr = w') := Lib.hid ((inName_any _ _).mono (by rintro e w' ⟨rfl, rfl⟩; rw [hgb] at hp; exact ⟨ret_bool hp, rfl⟩))
        clear hgb hp
        go_wp2_with fail
        refine KD.out.mono ?_
        rintro e w1 ⟨rfl, rfl⟩
        clear KD
        go_wp2_with fail
        go_ret
        have hE := HE.out
        subst hE
        have hX : x.data.toList.length = x.size := (Lib.size_eq x).symm
        refine ⟨?_, ?_, HK.out.setN _⟩
        · first | (rw [HN.out]; done) | (rw [HN.out]; rfl)
        · rw [HN.out]; exact One.set HO.out _
      · have HS := Lib.hid (tk_step (p := nmB) hlt hp)
        have KD : Hid (Calls Tryz.prog 35 #[.int .u8 (x[k]'hlt).toNat] wr fun e w' => e = .returned (.bool true) ∧ wr = w') := Lib.hid ((inName_any _ _).mono (by rintro e w' ⟨rfl, rfl⟩; rw [hgb] at hp; exact ⟨ret_bool hp, rfl⟩))
        clear hgb hp
        go_wp2_with fail
        refine KD.out.mono ?_
        rintro e w1 ⟨rfl, rfl⟩
        clear KD
        go_wp2_with fail
        have hT := HT.out
        rw [HS.out] at hT
        exact ⟨⟨k + 1, by go_num, by omega, HO.out, HK.out, by omega⟩, by simp [intOf]; omega⟩
    · have HE : Hid (k = N) := Lib.hid (by have := HT.out; rw [tk_end hlt] at this; exact this)
      go_wp2_with fail
      go_ret
      have hE := HE.out
      subst hE
      refine ⟨?_, ?_, HK.out.setN _⟩
      · first | (rw [HN.out]; done) | (rw [HN.out]; rfl)
      · rw [HN.out]; exact One.set HO.out _
end Go.Proofs.YtejniiehfangkaaGreatDoor
