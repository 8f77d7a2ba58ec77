/- What stands first: what its ways have in common. -/
import Derived.Test.YtejniiehfangkaaGreatDoorKAs
import Derived.Test.YtejniiehfangkaaGreatDoorKNbW
import Derived.Test.YtejniiehfangkaaGreatDoorKRawW
set_option linter.unusedVariables false
set_option linter.unusedSimpArgs false
namespace Go.Proofs.YtejniiehfangkaaGreatDoor
open Go.RowKit
def asF (k : Nat) (s : ByteArray) (b : Bool) : Fst := if b then .ok k s.data.toList s.size else .no 0
theorem as_any (k : Nat) (s : ByteArray) (b : Bool) (hs : s.size ≤ 1000000) (w : World) : Calls Tryz.prog 36 #[.int .i64 (k : Nat), .string s, .bool b] w (FsP (asF k s b) w) := by
  cases b
  · exact as_no k s w
  · exact as_yes k s hs w
theorem fsR_shape {F : Fst} {e : Ending} (h : FsR F e) : ∃ (k : Int) (t : ByteArray) (n : Nat) (b : Bool), e = .returned (.tuple #[.agg #[.int .i64 k, .string t, .int .i64 0], .int .i64 (n : Nat), .bool b]) := by
  cases F with
  | ok k s n => exact ⟨k, _, n, true, h⟩
  | no b =>
    obtain ⟨k, t, h⟩ := h
    exact ⟨k, t, b, false, h⟩
def nbS : Fst → ByteArray
  | .ok _ s _ => ⟨s.toArray⟩
  | .no _ => ⟨#[]⟩
def nbB : Fst → Bool
  | .ok _ _ _ => true
  | .no _ => false
theorem nbR_is {F : Fst} {e : Ending} (h : NbR F e) : e = .returned (.tuple #[.string (nbS F), .bool (nbB F)]) := by
  cases F with
  | ok k s n => exact h
  | no b => exact h
theorem num_as (l : List UInt8) : asF 3 (nbS (numL l)) (nbB (numL l)) = numL l ∧ (nbS (numL l)).size ≤ l.length := by
  unfold numL
  have h := dgN_le l
  split
  · exact ⟨rfl, Nat.zero_le _⟩
  · have hs : (nbS (.ok 3 (l.take (sgN l + dgN l)) (sgN l + dgN l))).size = sgN l + dgN l := by
      show (l.take (sgN l + dgN l)).toArray.size = _
      rw [List.size_toArray, List.length_take, Nat.min_eq_left h]
    refine ⟨?_, by rw [hs]; exact h⟩
    show Fst.ok 3 (l.take (sgN l + dgN l)).toArray.toList _ = _
    rw [hs]
theorem fst_empty (w : World) : Calls Tryz.prog 22 #[.string ⟨#[]⟩] w (FsP (.no 0) w) := by
  have HR := Lib.hid (row3 (heap_alloc_new w (zT)))
  have HB0 := Lib.hid ((Below.refl w.heap.size w).alloc (Nat.le_refl _) zT)
  go_enter Tryz.func22, Tryz.ntmps22
  go_wp2_with fail
  generalize w.alloc zT = w0 at HR HB0 ⊢
  have z0 := HR.out.cell (show 0 < 3 by decide)
  have z1 := HR.out.cell (show 1 < 3 by decide)
  have z2 := HR.out.cell (show 2 < 3 by decide)
  have g0 := HR.out.frozen 0
  have g1 := HR.out.frozen 1
  have g2 := HR.out.frozen 2
  simp only [t3, List.getD_cons_succ, List.getD_cons_zero] at z0 z1 z2
  go_wp2_with fail
  refine bodyPost_ret (v := .tuple #[.agg #[.int .i64 0, .string ByteArray.empty, .int .i64 0], .int .i64 0, .bool false]) (by simp [results, Tryz.results22, go_sem, z0, z1, z2]; try rfl) rfl ?_
  first | exact ⟨⟨0, _, rfl⟩, resT_below HB0.out (Nat.le_refl _)⟩ | exact ⟨⟨0, _, rfl⟩, HB0.out⟩
end Go.Proofs.YtejniiehfangkaaGreatDoor
