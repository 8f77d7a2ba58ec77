import Derived.Test.YtbfgekfajbbdaaaWalksG
set_option linter.unusedVariables false
set_option linter.unusedSimpArgs false
namespace Go.Proofs.Ytbfgekfajbbdaaa
open Go.RowKit
set_option maxHeartbeats 1000000 in
set_option maxRecDepth 100000 in
theorem runes_ref (s : ByteArray) (hs : s.size ≤ 4294967296) (w : World) : Calls Try.prog 15 #[.string s] w fun e w' => ∃ v, e = .returned v ∧ w'.ownsRow w.heap.size 21 1 v (runesI s).length (i32s (runesI s)) ∧ Below w.heap.size w w' := by
  obtain ⟨i0, hi, hz0, hz1, hz2⟩ := info_parts info21
  cases hr : rightB s
  · have HI : Hid (runesI s = []) := by unfold runesI; rw [hr]; rfl
    go_enter Try.func15, Try.ntmps15
    go_wp2_with (go_at_call 25; refine (right_ref s hs _).mono ?_; rintro e w1 ⟨rfl, rfl⟩)
    go_ret
    refine ⟨_, rfl, ?_, Below.refl _ _⟩
    rw [HI.out]
    exact World.ownsRow_nil _ _ _ _
  · have HI : Hid (runesI s = runesF s (s.size + 1) 0) := by unfold runesI; rw [hr]; rfl
    have hbi : badI s = -1 := by rw [right_iff] at hr; simpa using hr
    have HBI := Lib.hid hbi
    clear hbi
    go_enter Try.func15, Try.ntmps15
    go_wp2_with (go_at_call 25; refine (right_ref s hs _).mono ?_; rintro e w1 ⟨rfl, rfl⟩)
    go_loopw [3, 4] (fun v i wr => ∃ (k g : Nat) (rs : List Nat), k ≤ s.size ∧ i = .int .i64 k ∧ rs.length ≤ k ∧
      wr.ownsRow w.heap.size 21 1 v rs.length (i32s rs) ∧ Below w.heap.size w wr ∧ w.heap.size ≤ wr.heap.size ∧ rs ++ runesF s g k = runesF s (s.size + 1) 0 ∧ badF s g k = -1 ∧ s.size < k + g) (fun _ i _ => s.size - (intOf i).toNat)
    case atStart => exact ⟨0, s.size + 1, [], by omega, rfl, by simp, World.ownsRow_nil _ _ _ _, Below.refl _ _, Nat.le_refl _, rfl, HBI.out, by omega⟩
    case round =>
      obtain ⟨k, g, rs, hps, rfl, hll, hown, hbel, hsz, hc, hbd, hg⟩ := hrel
      have HC := Lib.hid hc
      have HBD := Lib.hid hbd
      clear hc hbd
      by_cases hp : k < s.size
      · have hd := dec_in s k hp
        have hb : badAt s k = false := by
          cases hb : badAt s k
          · rfl
          · have := badF_hit s g k hp hg hb; rw [HBD.out] at this; omega
        obtain ⟨g', h1, h2, h3⟩ := runesF_go s g k hp hg
        have HR := Lib.hid h1
        have hbd' : badF s g' (k + (Utf8.decode s k).2) = -1 := by
          have := HBD.out; rw [h3, badF, if_pos hp, hb] at this; simpa using this
        have HBD' := Lib.hid hbd'
        clear hbd'
        have hd1 := hd.1
        have hd2 := hd.2.1
        clear h1 h3 hd
        go_wp2_with (first | (go_at_call 23; refine (size_is_ok s hs k hp hb _).mono ?_; rintro e w' ⟨rfl, rfl⟩) | (at_builtin; refine wpList_append_own _ rfl _ _ 26 rfl w.heap.size 21 i0 (.int .i32 0) 1 4 Try.underlying26 hi hz0 hz1 hz2 rfl (by decide) _ _ _ rfl (hown.alloc _) ⟨wr.heap.size, 0, none⟩ 1 1 [.int .i32 (Utf8.decode s k).1] rfl rfl (cell_one_new _ _ _) (by simp [Value.oneCell']) (by unfold maxLen; omega) (by omega) (by simp; omega) ?_; intro v' w3 hown3 hgrow _))
        have h3 := (hbel.alloc hsz _).grown hgrow (by simp; omega) (fun j hj => (hown.lt j hj).1)
        refine ⟨⟨k + (Utf8.decode s k).2, g', rs ++ [(Utf8.decode s k).1], hd2, by go_num, by simp only [List.length_append, List.length_singleton]; omega, ?_, h3, h3.size, by rw [← HC.out, HR.out]; simp, HBD'.out, h2⟩, by simp [intOf]; omega⟩
        rw [i32s_snoc, List.length_append]; exact hown3
      · have HR := Lib.hid (runesF_end s g k hp)
        go_wp2
        go_ret
        refine ⟨_, rfl, ?_, hbel⟩
        have e : runesI s = rs := by rw [HI.out, ← HC.out, HR.out, List.append_nil]
        rw [e]
        exact hown
/-- A slice of n cells that reads as the values xs, nil let in. -/
def Rd (w : World) (A : Option Addr) (n : Nat) (xs : List Value) : Prop :=
  xs.length = n ∧ (0 < n → ∃ ad, A = some ad ∧ ad.block < w.heap.size ∧ ∀ j u, xs[j]? = some u → w.cell? (ad.add j) = some u)
theorem add_block (a : Addr) (n : Nat) : (a.add n).block = a.block := by unfold Addr.add; split <;> rfl
theorem Rd.below {w w' : World} {A : Option Addr} {n B : Nat} {xs : List Value} (h : Rd w A n xs) (hb : Below B w w') (hB : w.heap.size ≤ B) : Rd w' A n xs :=
  ⟨h.1, fun hn => by
    obtain ⟨ad, e, hlt, hc⟩ := h.2 hn
    exact ⟨ad, e, by have := hb.size; omega, fun j u hu => (hb.cell (by rw [add_block]; omega)).trans (hc j u hu)⟩⟩
theorem Rd.own {w : World} {base : Nat} {e : TypeId} {v : Value} {n : Nat} {xs : List Value} (h : w.ownsRow base e 1 v n xs) : ∃ A c, v = .slice A n c ∧ Rd w A n xs ∧ n ≤ c := by
  rcases h.2 with ⟨rfl, rfl⟩ | ⟨g, cap, cur, rfl, hg, hh, hnc, _⟩
  · exact ⟨none, 0, rfl, ⟨by have := h.1; omega, fun hn => by omega⟩, Nat.le_refl _⟩
  · exact ⟨_, cap, rfl, ⟨by have := h.1; omega, fun _ => ⟨_, rfl, (Array.getElem?_eq_some_iff.1 hh).1, h.cells rfl⟩⟩, hnc⟩
set_option maxHeartbeats 400000 in
theorem same_true (A B : Option Addr) (n c1 c2 : Nat) (zs : List Int) (w : World) (hn : n ≤ 4294967296) (hA : Rd w A n (zs.map (Value.int .i32))) (hB : Rd w B n (zs.map (Value.int .i32))) :
    Calls Try.prog 13 #[.slice A n c1, .slice B n c2] w fun e w' => e = .returned (.bool true) ∧ Below w.heap.size w w' := by
  go_enter Try.func13, Try.ntmps13
  go_wp2
  go_loopw [5] (fun i wr => ∃ k : Nat, k ≤ n ∧ i = .int .i64 k ∧ Below w.heap.size w wr) (fun i _ => n - (intOf i).toNat)
  case atStart => exact ⟨0, Nat.zero_le _, rfl, Below.refl _ _⟩
  case round =>
    obtain ⟨k, hk, rfl, hbr⟩ := hrel
    by_cases hlt : k < n
    · obtain ⟨a, rfl, _, ha⟩ := (hA.below hbr (Nat.le_refl _)).2 (by omega)
      obtain ⟨b, rfl, _, hb⟩ := (hB.below hbr (Nat.le_refl _)).2 (by omega)
      have hl : zs.length = n := by have := hA.1; simpa using this
      obtain ⟨z, hz⟩ : ∃ z, zs[k]? = some z := ⟨zs[k], List.getElem?_eq_getElem (by omega)⟩
      have c1 := ha k (.int .i32 z) (by simp [hz])
      have c2 := hb k (.int .i32 z) (by simp [hz])
      clear ha hb hz hl
      go_wp2
      go_quiet (fail)
      go_wp2
      exact ⟨⟨k + 1, by omega, by go_num, below_drewN hbr nq⟩, by simp [intOf]; omega⟩
    · go_wp2
      go_ret
      exact ⟨rfl, hbr⟩
end Go.Proofs.Ytbfgekfajbbdaaa
