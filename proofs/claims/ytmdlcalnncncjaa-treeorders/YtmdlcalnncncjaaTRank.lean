/- The order that tree.Ordered sorts by: a key's place among the keys, and their comparison. -/
import Derived.Test.YtmdlcalnncncjaaTGet
import Derived.Deep.RegionHeld3
set_option linter.unusedVariables false
set_option linter.unusedSimpArgs false
namespace Go.Proofs.Ytmdlcalnncncjaa
open Go.RowKit Go.Maps
theorem nan_any (x : Int) (w : World) : Calls Try.prog 109 #[.int .i64 x] w fun e w' => e = .returned (.bool false) ∧ w' = w := by
  go_enter Try.func109, Try.ntmps109
  go_wp2_with fail
  go_ret
  exact ⟨by simp, rfl⟩
def cmpI (x y : Int) : Int := if x < y then -1 else if y < x then 1 else 0
theorem compare_any (x y : Int) (w : World) : Calls Try.prog 83 #[.int .i64 x, .int .i64 y] w fun e w' => e = .returned (.int .i64 (cmpI x y)) ∧ w' = w := by
  by_cases h1 : x < y
  · have hc := Lib.hid (show cmpI x y = -1 by unfold cmpI; rw [if_pos h1])
    go_enter Try.func83, Try.ntmps83
    go_wp2_with (go_at_call 109; refine (nan_any _ _).mono ?_; rintro e w1 ⟨rfl, rfl⟩)
    go_ret
    exact ⟨by rw [hc.out]; rfl, rfl⟩
  · by_cases h2 : y < x
    · have hc := Lib.hid (show cmpI x y = 1 by unfold cmpI; rw [if_neg h1, if_pos h2])
      go_enter Try.func83, Try.ntmps83
      go_wp2_with (go_at_call 109; refine (nan_any _ _).mono ?_; rintro e w1 ⟨rfl, rfl⟩)
      go_ret
      exact ⟨by rw [hc.out]; rfl, rfl⟩
    · have hc := Lib.hid (show cmpI x y = 0 by unfold cmpI; rw [if_neg h1, if_neg h2])
      go_enter Try.func83, Try.ntmps83
      go_wp2_with (go_at_call 109; refine (nan_any _ _).mono ?_; rintro e w1 ⟨rfl, rfl⟩)
      go_ret
      exact ⟨by rw [hc.out]; rfl, rfl⟩
/-- A key's rank: its place, or behind all. -/
def RankP (keys : List ByteArray) (key : ByteArray) (n : Int) : Prop := (∃ i : Nat, n = (i : Int) ∧ keys[i]? = some key) ∨ (n = (keys.length : Int) ∧ key ∉ keys)
/-- What rank and its two captured variables lead to. -/
structure RankAt (w : World) (Mv Kv : Nat) (keys : List ByteArray) (b n : Nat) (D : DataW Unit) (K : Option Addr) (kc : Nat) : Prop where
  m : w.cell? ⟨Mv, 0, none⟩ = some (.map (some b))
  k : w.cell? ⟨Kv, 0, none⟩ = some (.slice K keys.length kc)
  own : w.ownsMap Try.prog 9 (plainElem Try.prog 3) b n D
  told : MapTo D keys keys.length
  lt : b < w.heap.size
theorem RankAt.below {w w' : World} {Mv Kv : Nat} {keys : List ByteArray} {b n : Nat} {D : DataW Unit} {K : Option Addr} {kc : Nat} (H : RankAt w Mv Kv keys b n D K kc) (hb : Below w.heap.size w w') : RankAt w' Mv Kv keys b n D K kc := by
  refine ⟨cur_bel H.m hb, cur_bel H.k hb, ?_, H.told, Nat.lt_of_lt_of_le H.lt hb.size⟩
  obtain ⟨es, clock, h1, h2⟩ := H.own
  exact ⟨es, clock, (hb.block b H.lt).trans h1, h2⟩
set_option maxHeartbeats 1000000 in
theorem rank_any (keys : List ByteArray) (key : ByteArray) (u : Hd) (Mv Kv b n : Nat) (D : DataW Unit) (K : Option Addr) (kc : Nat) (w : World) (hks : key.size ≤ maxLen) (H : RankAt w Mv Kv keys b n D K kc) :
    Calls Try.prog 80 #[.agg #[.string key, .int .i64 u.k, .int .i64 u.n, .string u.s, .slice u.A u.la u.lc, .slice u.F u.lf u.fc], .pointer (some ⟨Mv, 0, none⟩), .pointer (some ⟨Kv, 0, none⟩)] w fun e w' => (∃ r : Int, e = .returned (.int .i64 r) ∧ RankP keys key r) ∧ Below w.heap.size w w' := by
  have hko := WideMaps.keyOf_string_mk Try.underlying9 hks
  have H1 := H.below ((Below.refl _ _).alloc (Nat.le_refl _) (Obj.cells #[.string key, .int .i64 u.k, .int .i64 u.n, .string u.s, .slice u.A u.la u.lc, .slice u.F u.lf u.fc] 36))
  have hm := H1.m
  have hk := H1.k
  have hown := H1.own
  have HAS := Lib.hid (H.told.has key)
  have HAT := Lib.hid H.told.at_
  clear H H1
  cases hh : Maps.has D (kl key)
  · have HH := Lib.hid hh
    clear hh
    go_enter Try.func80, Try.ntmps80
    go_wp2_with (at_lookup; refine wpList_lookup_own_ok_int _ rfl _ _ 82 rfl 9 3 .i64 law9 Try.underlying82 Try.underlying3 (zero3 _) b n D rfl hown _ _ rfl hko ?_; intro cL hat hwc; rw [HH.out])
    go_ret
    refine ⟨⟨_, rfl, .inr ⟨rfl, fun hm => ?_⟩⟩, (Below.refl _ _).alloc (Nat.le_refl _) _⟩
    have := HAS.out.2 (by rw [List.take_length]; exact hm)
    rw [HH.out] at this
    cases this
  · have HH := Lib.hid hh
    clear hh
    go_enter Try.func80, Try.ntmps80
    go_wp2_with (at_lookup; refine wpList_lookup_own_ok_int _ rfl _ _ 82 rfl 9 3 .i64 law9 Try.underlying82 Try.underlying3 (zero3 _) b n D rfl hown _ _ rfl hko ?_; intro cL hat hwc; rw [HH.out])
    go_ret
    refine ⟨⟨cL, rfl, ?_⟩, (Below.refl _ _).alloc (Nat.le_refl _) _⟩
    have hin := HAS.out.1 HH.out
    rw [List.take_length] at hin
    obtain ⟨i, hi⟩ := List.mem_iff_getElem?.1 hin
    have h2 := HAT.out i key (List.getElem?_eq_some_iff.1 hi).1 hi (.lit (.int .i64 0))
    rw [hat] at h2
    injection h2 with h2
    injection h2 with _ h2
    exact .inl ⟨i, h2, hi⟩
end Go.Proofs.Ytmdlcalnncncjaa
