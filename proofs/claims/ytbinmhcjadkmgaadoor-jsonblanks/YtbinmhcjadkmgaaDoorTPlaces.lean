/- tree.places: where each key stands, in a map. -/
import Derived.Test.YtbinmhcjadkmgaaDoorTRight
import Derived.Maps.OwnSet
set_option linter.unusedVariables false
set_option linter.unusedSimpArgs false
namespace Go.Proofs.YtbinmhcjadkmgaaDoor
open Go.RowKit Go.Maps
theorem law9 : Keyed Tryd.prog 9 := string_keyed Tryd.underlying9
theorem zero3 (w : World) : (zeroValue 3).run Tryd.prog w = .ok (.int .i64 0) w := by kernel_rfl
abbrev kl (s : ByteArray) : Lit := .string s.data.toList
theorem kl_inj {s t : ByteArray} (h : kl s = kl t) : s = t := by
  injection h with h
  exact ByteArray.ext (Array.toList_inj.1 h)
/-- The map tells the places of the first i keys. -/
structure MapTo (D : DataW Unit) (ks : List ByteArray) (i : Nat) : Prop where
  isMap : IsMap D
  has : ∀ x, Maps.has D (kl x) = true ↔ x ∈ ks.take i
  at_ : ∀ (j : Nat) x, j < i → ks[j]? = some x → ∀ z, D.atKey (kl x) z = .lit (.int .i64 j)
theorem MapTo.start (ks : List ByteArray) : MapTo (.map []) ks 0 := ⟨isMap_empty, fun x => by simp [Maps.has], fun j x hj => by omega⟩
theorem MapTo.step {D : DataW Unit} {ks : List ByteArray} {i : Nat} {x : ByteArray} (h : MapTo D ks i) (hx : ks[i]? = some x) (hn : Maps.has D (kl x) = false) : MapTo (D.put (kl x) (.lit (.int .i64 i))) ks (i + 1) := by
  refine ⟨h.isMap.put _ _, fun y => ?_, fun j y hj hy z => ?_⟩
  · rw [take_next hx]
    by_cases e : y = x
    · subst e
      rw [has_put_same h.isMap (show WideAt.IsKeyLit (kl y) from trivial)]
      simp
    · rw [has_put_other (fun e' => e (kl_inj e'))]
      rw [h.has y]
      simp [e]
  · by_cases e : j = i
    · subst e
      rw [hx] at hy
      cases hy
      exact atKey_put_same h.isMap (show WideAt.IsKeyLit (kl x) from trivial) _ _
    · have hne : y ≠ x := by
        rintro rfl
        have : Maps.has D (kl y) = true := (h.has y).2 (List.mem_iff_getElem?.2 ⟨j, by rw [List.getElem?_take_of_lt (by omega)]; exact hy⟩)
        rw [hn] at this
        cases this
      rw [atKey_put_other (fun e' => hne (kl_inj e'))]
      exact h.at_ j y (by omega) hy z
theorem run_makeMap_hint (k : IntKind) (n : Int) (w : World) : (Instr.makeMap 77 (some (.int k n))).run Tryd.prog w = .ok (.map (some w.heap.size)) (w.alloc (.map #[] 0)) := by
  simp [Instr.makeMap, run_underlying Tryd.underlying77, asInt, asIntOf, Result.andThen]
/-- A slice of n cells that reads as the values xs, nil let in. -/
def Rd (w : World) (A : Option Addr) (n : Nat) (xs : List Value) : Prop :=
  xs.length = n ∧ (0 < n → ∃ ad, A = some ad ∧ ad.block < w.heap.size ∧ ∀ (j : Nat) u, xs[j]? = some u → w.cell? (ad.add j) = some u)
theorem Rd.below {w w' : World} {A : Option Addr} {n B : Nat} {xs : List Value} (h : Rd w A n xs) (hb : Below B w w') (hB : w.heap.size ≤ B) : Rd w' A n xs :=
  ⟨h.1, fun hn => by
    obtain ⟨ad, e, hlt, hc⟩ := h.2 hn
    exact ⟨ad, e, by have := hb.size; omega, fun j u hu => (hb.cell (by rw [adb]; omega)).trans (hc j u hu)⟩⟩
/-- What places answers: the map and true, or nil and false. -/
def PlacesR (ks : List ByteArray) (w : World) (e : Ending) (w' : World) : Prop :=
  Below w.heap.size w w' ∧ ((ks.Nodup ∧ ∃ b n D, e = .returned (.tuple #[.map (some b), .bool true]) ∧ w.heap.size ≤ b ∧ w'.ownsMap Tryd.prog 9 (plainElem Tryd.prog 3) b n D ∧ MapTo D ks ks.length) ∨
    (¬ ks.Nodup ∧ e = .returned (.tuple #[.map none, .bool false])))
theorem nodup_take_step {ks : List ByteArray} {i : Nat} {x : ByteArray} (h : (ks.take i).Nodup) (hx : ks[i]? = some x) (hn : x ∉ ks.take i) : (ks.take (i + 1)).Nodup := by
  rw [take_next hx, List.nodup_append]
  refine ⟨h, by simp, fun a ha b hb => ?_⟩
  simp at hb
  subst hb
  intro e
  subst e
  exact hn ha
theorem not_nodup {ks : List ByteArray} {i : Nat} {x : ByteArray} (hx : ks[i]? = some x) (hm : x ∈ ks.take i) : ¬ ks.Nodup := by
  intro h
  have h2 : (ks.take (i + 1)).Nodup := h.sublist (List.take_sublist _ _)
  rw [take_next hx, List.nodup_append] at h2
  exact h2.2.2 x hm x (by simp) rfl
set_option maxHeartbeats 400000 in
set_option maxRecDepth 100000 in
theorem places_any (ks : List ByteArray) (A : Option Addr) (c : Nat) (w : World) (hn : ks.length ≤ 1048576) (hsz : ∀ x ∈ ks, x.size ≤ maxLen) (hA : Rd w A ks.length (ks.map Value.string)) :
    Calls Tryd.prog 51 #[.slice A ks.length c] w fun e w' => PlacesR ks w e w' := by
  have hmm := run_makeMap_hint
  go_enter Tryd.func51, Tryd.ntmps51
  go_wp2_with fail
  go_loopw [14] (fun iv wr => ∃ (i : Nat) (D : DataW Unit), iv = .int .i64 i ∧ i ≤ ks.length ∧ MapTo D ks i ∧ (ks.take i).Nodup ∧ wr.ownsMap Tryd.prog 9 (plainElem Tryd.prog 3) w.heap.size i D ∧ Below w.heap.size w wr) (fun iv _ => ks.length - (intOf iv).toNat)
  case atStart => exact ⟨0, .map [], rfl, Nat.zero_le _, MapTo.start _, by simp, World.ownsMap_made _ _ _ _, (Below.refl _ _).alloc (Nat.le_refl _) _⟩
  case round =>
    obtain ⟨i, D, rfl, hi, hmt, hnd, hown, hbel⟩ := hrel
    have HM := Lib.hid hmt
    have HND := Lib.hid hnd
    have HB := Lib.hid hbel
    clear hmt hnd hbel
    by_cases hlt : i < ks.length
    · obtain ⟨ad, rfl, _, hcell⟩ := (hA.below HB.out (Nat.le_refl _)).2 (by omega)
      obtain ⟨key, hkey⟩ : ∃ key, ks[i]? = some key := ⟨ks[i], List.getElem?_eq_getElem hlt⟩
      have k0 := hcell i (.string key) (by simp [hkey])
      have hko := WideMaps.keyOf_string_mk Tryd.underlying9 (hsz key (List.mem_of_getElem? hkey))
      have HK := Lib.hid hkey
      clear hcell hkey
      have hiff := Lib.hid (HM.out.has key)
      cases hh : Maps.has D (kl key)
      · have HH := Lib.hid hh
        go_wp2_with (first
          | (at_lookup; refine wpList_lookup_own_ok_int _ rfl _ _ 77 rfl 9 3 .i64 law9 Tryd.underlying77 Tryd.underlying3 (zero3 _) w.heap.size i D rfl hown _ _ rfl hko ?_; intro cL hat hwc; rw [HH.out])
          | (at_mapUpdate; refine wpList_mapUpdate_own _ rfl _ _ _ 77 rfl 9 3 law9 Tryd.underlying77 _ w.heap.size i _ rfl hown (by unfold maxLen; omega) _ _ _ rfl rfl hko _ [] (plainElem_int Tryd.underlying3 (WalkArith.wf_i64 (by omega))) ?_; intro w1 hown1 hgrow1))
        refine ⟨⟨i + 1, _, by go_num, by omega, HM.out.step HK.out HH.out, nodup_take_step HND.out HK.out (fun hm => by have := hiff.out.2 hm; rw [HH.out] at this; cases this), hown1, HB.out.grown hgrow1 HB.out.size (fun j hj => by cases hj; exact Nat.le_refl _)⟩, by simp [intOf]; omega⟩
      · have HH := Lib.hid hh
        go_wp2_with (at_lookup; refine wpList_lookup_own_ok_int _ rfl _ _ 77 rfl 9 3 .i64 law9 Tryd.underlying77 Tryd.underlying3 (zero3 _) w.heap.size i D rfl hown _ _ rfl hko ?_; intro cL hat hwc; rw [HH.out])
        go_ret2
        exact ⟨HB.out, .inr ⟨not_nodup HK.out (hiff.out.1 HH.out), rfl⟩⟩
    · have hall : Hid (ks.Nodup ∧ MapTo D ks ks.length) := by
        have e : i = ks.length := by omega
        have h1 := HND.out
        have h2 := HM.out
        rw [e] at h1 h2
        rw [List.take_length] at h1
        exact ⟨h1, h2⟩
      go_wp2_with fail
      go_ret2
      exact ⟨HB.out, .inl ⟨hall.out.1, w.heap.size, i, D, rfl, Nat.le_refl _, hown, hall.out.2⟩⟩
end Go.Proofs.YtbinmhcjadkmgaaDoor
