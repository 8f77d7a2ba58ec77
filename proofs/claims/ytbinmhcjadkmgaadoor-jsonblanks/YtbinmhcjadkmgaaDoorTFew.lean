/- The reference's few: how many values, and how long their texts. -/
import Derived.Test.YtbinmhcjadkmgaaDoorTA
set_option linter.unusedVariables false
set_option linter.unusedSimpArgs false
namespace Go.Proofs.YtbinmhcjadkmgaaDoor
open Go.RowKit
mutual
def Va.Sh : Va → Prop
  | .mk _ _ s l ks f => s.size ≤ 500 ∧ ShL l ∧ (∀ x ∈ ks, x.size ≤ 500) ∧ ShL f
def ShL : List Va → Prop
  | [] => True
  | x :: r => x.Sh ∧ ShL r
end
def FewR (a : Va) (n r : Int) : Prop := -1 ≤ r ∧ r ≤ n ∧ (0 ≤ r → a.Sh ∧ r + a.cnt = n)
def FewL (l : List Va) (i : Nat) (n m : Int) : Prop := -1 ≤ m ∧ m ≤ n ∧ (0 ≤ m → ShL (l.take i) ∧ m + cntL (l.take i) = n)
theorem ShL_app : ∀ (l r : List Va), ShL (l ++ r) ↔ ShL l ∧ ShL r
  | [], r => by simp [ShL]
  | x :: l, r => by simp [ShL, ShL_app l r, and_assoc]
theorem cntL_app : ∀ (l r : List Va), cntL (l ++ r) = cntL l + cntL r
  | [], r => by simp [cntL]
  | x :: l, r => by simp [cntL, cntL_app l r, Nat.add_assoc]
theorem take_next {α : Type} {l : List α} {i : Nat} {x : α} (h : l[i]? = some x) : l.take (i + 1) = l.take i ++ [x] := by
  rw [List.take_add_one, h]; rfl
theorem FewL.start (l : List Va) (n : Int) (h : -1 ≤ n) : FewL l 0 n n := ⟨h, Int.le_refl _, fun _ => ⟨by simp [ShL], by simp [cntL]⟩⟩
theorem FewL.step {l : List Va} {i : Nat} {x : Va} {n m r : Int} (h : FewL l i n m) (hx : l[i]? = some x) (hm : 0 ≤ m) (hr : FewR x m r) : FewL l (i + 1) n r := by
  obtain ⟨h1, h2, h3⟩ := h
  obtain ⟨r1, r2, r3⟩ := hr
  refine ⟨r1, by omega, fun h0 => ?_⟩
  obtain ⟨s1, s2⟩ := r3 h0
  obtain ⟨t1, t2⟩ := h3 hm
  rw [take_next hx, ShL_app, cntL_app]
  refine ⟨⟨t1, by simp [ShL, s1]⟩, ?_⟩
  simp only [cntL]
  omega
theorem FewL.all {l : List Va} {i : Nat} {n m : Int} (h : FewL l i n m) (hi : l.length ≤ i) (hm : 0 ≤ m) : ShL l ∧ m + cntL l = n := by
  have := h.2.2 hm
  rwa [List.take_of_length_le hi] at this
def FewK (ks : List ByteArray) (i : Nat) (m : Int) : Prop := 0 ≤ m → ∀ x ∈ ks.take i, x.size ≤ 500
theorem FewK.step {ks : List ByteArray} {i : Nat} {x : ByteArray} {m r : Int} (h : FewK ks i m) (hx : ks[i]? = some x) (hm : 0 ≤ m) (hs : x.size ≤ 500) : FewK ks (i + 1) r := by
  intro _ y hy
  rw [take_next hx] at hy
  rcases List.mem_append.1 hy with hy | hy
  · exact h hm y hy
  · simp at hy; subst hy; exact hs
set_option maxHeartbeats 400000 in
set_option maxRecDepth 100000 in
theorem few_any : ∀ (a : Va) (S : Nat → Prop) (h : Hd) (w : World) (n : Int), Lies w S a h → -1 ≤ n → n ≤ 1000 → Calls Tryd.prog 14 #[h.val, .int .i64 n] w fun e w' => ∃ r : Int, e = .returned (.int .i64 r) ∧ FewR a n r ∧ Below w.heap.size w w' := by
  intro a
  induction a using Va.ind with
  | h k nn s l ks f ihl ihf =>
  intro S h w n H hn hn2
  have Hop := H.op
  simp only [Lies] at H
  obtain ⟨⟨e1, e2, e3, e4, e5, e6⟩, ⟨b1, b2, b3, b4, b5, b6, b7, b8⟩, _, _⟩ := H
  obtain ⟨hk, hnn, hs, A, la, lc, F, lf, fc⟩ := h
  simp only at e1 e2 e3 e4 e5 b7 b8
  subst e1 e2 e3
  unfold Hd.val
  have hml : maxLen ≤ 9223372036854775807 := by decide
  have b5' : l.length ≤ 9223372036854775807 := Nat.le_trans b5 hml
  have b6' : f.length ≤ 9223372036854775807 := Nat.le_trans b6 hml
  clear hml
  by_cases h1 : n < 1
  · go_enter Tryd.func14, Tryd.ntmps14
    go_wp2_with fail
    go_ret
    exact ⟨-1, rfl, ⟨by omega, by omega, fun h => by omega⟩, (Below.refl _ _).alloc (Nat.le_refl _) _⟩
  by_cases h2 : 500 < hs.size
  · go_enter Tryd.func14, Tryd.ntmps14
    go_wp2_with fail
    go_ret
    exact ⟨-1, rfl, ⟨by omega, by omega, fun h => by omega⟩, (Below.refl _ _).alloc (Nat.le_refl _) _⟩
  go_enter Tryd.func14, Tryd.ntmps14
  go_wp2_with fail
  go_loopw [1, 5] (fun nv iv wr => ∃ (i : Nat) (m : Int), nv = .int .i64 m ∧ iv = .int .i64 i ∧ i ≤ l.length ∧ FewL l i (n - 1) m ∧ BoxAt w wr ⟨hk, hnn, hs, A, l.length, lc, F, f.length, fc⟩) (fun _ iv _ => l.length - (intOf iv).toNat)
  case atStart => exact ⟨0, n - 1, rfl, rfl, Nat.zero_le _, FewL.start _ _ (by omega), BoxAt.start w ⟨hk, hnn, hs, A, l.length, lc, F, f.length, fc⟩ 25⟩
  case round =>
    obtain ⟨i, m, rfl, rfl, hi, hfl, hbx⟩ := hrel
    have HFL := Lib.hid hfl
    have hm1 := hfl.1
    have hm2 := hfl.2.1
    clear hfl
    have cA := hbx.2.2 3 _ rfl
    have cF := hbx.2.2 4 _ rfl
    have HB := Lib.hid hbx
    clear hbx
    by_cases hc : i < l.length ∧ 0 ≤ m
    · obtain ⟨hlt, hm0⟩ := hc
      obtain ⟨ad, u, rfl, _, hbl, hLu, hcell⟩ := Hop.L i _ (List.getElem?_eq_getElem hlt)
      obtain ⟨k0, k1, k2, k3, k4⟩ := hcell.below HB.out.1 hbl
      have hLu' := Lib.hid (hLu.below HB.out.1 (Nat.le_refl _))
      have ihx := Lib.hid (ihl l[i] (List.getElem_mem hlt))
      clear hcell hLu ihl ihf
      go_wp2_with fail
      refine (ihx.out S u _ m hLu'.out (by omega) (by omega)).mono ?_
      rintro e w1 ⟨r, rfl, hr, hb1⟩
      go_wp2_with fail
      have hst := HFL.out.step (List.getElem?_eq_getElem hlt) hm0 hr
      exact ⟨⟨i + 1, r, rfl, by go_num, by omega, hst, HB.out.go hb1 (Nat.le_refl _)⟩, by simp [intOf]; omega⟩
    · have hrest : Hid (0 ≤ m → ShL l ∧ m + cntL l = n - 1) := fun h0 => HFL.out.all (by omega) h0
      clear HFL ihl
      rcases (by omega : ¬ i < l.length ∨ (i < l.length ∧ ¬ 0 ≤ m)) with hx | ⟨hx, hx2⟩
      all_goals go_wp2_with fail
      all_goals (
        go_loopw [1, 6] (fun nv iv wx => ∃ (i : Nat) (m' : Int), nv = .int .i64 m' ∧ iv = .int .i64 i ∧ i ≤ f.length ∧ FewL f i m m' ∧ FewK ks i m' ∧ BoxAt w wx ⟨hk, hnn, hs, A, l.length, lc, F, f.length, fc⟩) (fun _ iv _ => f.length - (intOf iv).toNat)
        case atStart => exact ⟨0, m, rfl, rfl, Nat.zero_le _, FewL.start _ _ hm1, fun _ => by simp, HB.out⟩
        case round =>
          obtain ⟨i', m', rfl, rfl, hi', hfl, hfk, hbx⟩ := hrel
          have HFL := Lib.hid hfl
          have HFK := Lib.hid hfk
          have hm1' := hfl.1
          have hm2' := hfl.2.1
          clear hfl hfk
          have cF := hbx.2.2 4 _ rfl
          have HB' := Lib.hid hbx
          clear hbx
          by_cases hc' : i' < f.length ∧ 0 ≤ m'
          · obtain ⟨hlt, hm0⟩ := hc'
            first | (exfalso; omega) | (
              obtain ⟨ad, u, key, rfl, _, hbl, hkey, hkl, hLu, hcell⟩ := Hop.K i' _ (List.getElem?_eq_getElem hlt)
              obtain ⟨k0, k1, k2, k3, k4, k5⟩ := hcell.below HB'.out.1 hbl
              have hLu' := Lib.hid (hLu.below HB'.out.1 (Nat.le_refl _))
              have ihx := Lib.hid (ihf f[i'] (List.getElem_mem hlt))
              have HK := Lib.hid hkey
              clear hcell hLu ihf hkey
              by_cases hks : 500 < key.size
              · go_wp2_with fail
                go_ret
                exact ⟨-1, rfl, ⟨by omega, by omega, fun h => by omega⟩, HB'.out.1⟩
              · go_wp2_with fail
                refine (ihx.out S u _ m' hLu'.out (by omega) (by omega)).mono ?_
                rintro e w1 ⟨r, rfl, hr, hb1⟩
                go_wp2_with fail
                have hst := HFL.out.step (List.getElem?_eq_getElem hlt) hm0 hr
                have hsk := HFK.out.step (r := r) HK.out hm0 (by omega)
                exact ⟨⟨i' + 1, r, rfl, by go_num, by omega, hst, hsk, HB'.out.go hb1 (Nat.le_refl _)⟩, by simp [intOf]; omega⟩)
          · have hlast : FewR (.mk hk hnn hs l ks f) n m' := by
              refine ⟨hm1', by omega, fun h0 => ?_⟩
              have h3 := HFL.out.all (by omega) h0
              have h4 := hrest.out (by omega)
              have h5 := HFK.out h0
              rw [List.take_of_length_le (by omega)] at h5
              simp only [Va.Sh, Va.cnt]
              exact ⟨⟨by omega, h4.1, h5, h3.1⟩, by omega⟩
            have HLA := Lib.hid hlast
            clear hlast
            rcases (by omega : ¬ i' < f.length ∨ (i' < f.length ∧ ¬ 0 ≤ m')) with hx | ⟨hx, hx2⟩
            all_goals go_wp2_with fail
            all_goals go_ret
            all_goals exact ⟨m', rfl, HLA.out, HB'.out.1⟩)
end Go.Proofs.YtbinmhcjadkmgaaDoor
