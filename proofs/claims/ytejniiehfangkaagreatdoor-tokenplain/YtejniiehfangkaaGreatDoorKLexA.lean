/- All tokens of a text: what the loop asks of those so far. -/
import Derived.Test.YtejniiehfangkaaGreatDoorKFst
import Derived.Test.YtejniiehfangkaaGreatDoorKBet
import Derived.Laws.OwnMore
set_option linter.unusedVariables false
set_option linter.unusedSimpArgs false
namespace Go.Proofs.YtejniiehfangkaaGreatDoor
open Go.RowKit
def tkC (t : Tkn) : List Value := [.int .i64 (t.k : Nat), .string ⟨t.s.toArray⟩, .int .i64 (t.a : Nat)]
def tkCs (ts : List Tkn) : List Value := ts.flatMap tkC
theorem tkCs_len (ts : List Tkn) : (tkCs ts).length = ts.length * 3 := by
  induction ts with
  | nil => rfl
  | cons t ts ih => unfold tkCs at ih ⊢; rw [List.flatMap_cons, List.length_append, ih]; simp [tkC]; omega
theorem tkCs_snoc (ts : List Tkn) (t : Tkn) : tkCs (ts ++ [t]) = tkCs ts ++ tkC t := by simp [tkCs]
theorem tkCs_at : ∀ (ts : List Tkn) (i : Nat) (t : Tkn) (j : Nat) (c : Value), ts[i]? = some t → (tkC t)[j]? = some c → (tkCs ts)[i * 3 + j]? = some c
  | [], i, t, j, c, h, _ => by simp at h
  | u :: us, 0, t, j, c, h, hc => by
    simp only [List.getElem?_cons_zero, Option.some.injEq] at h
    subst h
    have hj : j < 3 := by
      rcases Nat.lt_or_ge j 3 with h | h
      · exact h
      · rw [List.getElem?_eq_none (by simpa [tkC] using h)] at hc; cases hc
    unfold tkCs
    rw [List.flatMap_cons, List.getElem?_append_left (by simp [tkC]; omega), Nat.zero_mul, Nat.zero_add]
    exact hc
  | u :: us, i + 1, t, j, c, h, hc => by
    rw [List.getElem?_cons_succ] at h
    have ih := tkCs_at us i t j c h hc
    unfold tkCs at ih ⊢
    rw [List.flatMap_cons, List.getElem?_append_right (by simp [tkC]; omega), ← ih]
    congr 1
    simp [tkC]
    omega
/-- The last one is a number. -/
def nbT (ts : List Tkn) : Bool := match ts.getLast? with
  | some t => t.k == 3
  | none => false
theorem partsNumber_any (r : Int) (w : World) : Calls Tryz.prog 21 #[.int .u8 r] w fun e w' => e = .returned (.bool ((isL r || isD r) || r == 46)) ∧ w = w' := by
  have H := Lib.hid (inName_any r)
  generalize (isL r || isD r) = D at *
  cases D
  · go_enter Tryz.func21, Tryz.ntmps21
    go_wp2_with fail
    refine (H.out w).mono ?_
    rintro e w1 ⟨rfl, rfl⟩
    go_wp2_with fail
    go_ret
    exact ⟨rfl, rfl⟩
  · go_enter Tryz.func21, Tryz.ntmps21
    go_wp2_with fail
    refine (H.out w).mono ?_
    rintro e w1 ⟨rfl, rfl⟩
    go_wp2_with fail
    go_ret
    exact ⟨rfl, rfl⟩
theorem nl_none (a : Option Addr) (c : Nat) (w : World) : Calls Tryz.prog 20 #[.slice a 0 c] w fun e w' => e = .returned (.bool false) ∧ w = w' := by
  go_enter Tryz.func20, Tryz.ntmps20
  go_wp2_with fail
  go_ret
  exact ⟨rfl, rfl⟩
theorem nl_some (ad : Addr) (m c : Nat) (k : Int) (w : World) (hm : m ≤ 1000000) (hk : w.cell? (ad.add (m * 3)) = some (.int .i64 k)) : Calls Tryz.prog 20 #[.slice (some ad) (m + 1 : Nat) c] w fun e w' => e = .returned (.bool (k == 3)) ∧ w = w' := by
  have h0 : decide ((0 : Int) < ((m + 1 : Nat) : Int)) = true := decide_eq_true (by omega)
  have h1 : (((m + 1 : Nat) : Int) - 1) = (m : Int) := by omega
  have hlt : m < m + 1 := by omega
  go_enter Tryz.func20, Tryz.ntmps20
  go_wp2_with fail
  go_ret
  exact ⟨rfl, rfl⟩
end Go.Proofs.YtejniiehfangkaaGreatDoor
