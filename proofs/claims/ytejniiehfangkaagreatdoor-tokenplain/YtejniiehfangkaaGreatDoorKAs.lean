/- What stands first: as it stands. -/
import Derived.Test.YtejniiehfangkaaGreatDoorKTake
import Derived.Test.YtejniiehfangkaaGreatDoorTClone
import Derived.Deep.OwnRows
import Derived.Deep.Fields
import Derived.Deep.DrawnRows
set_option linter.unusedVariables false
set_option linter.unusedSimpArgs false
namespace Go.Proofs.YtejniiehfangkaaGreatDoor
open Go.RowKit
/-- What first answers. -/
def FsR : Fst → Ending → Prop
  | .ok k s n, e => e = .returned (.tuple #[.agg #[.int .i64 (k : Nat), .string ⟨s.toArray⟩, .int .i64 0], .int .i64 (n : Nat), .bool true])
  | .no b, e => ∃ (k : Int) (t : ByteArray), e = .returned (.tuple #[.agg #[.int .i64 k, .string t, .int .i64 0], .int .i64 (b : Nat), .bool false])
def FsP (F : Fst) (w : World) (e : Ending) (w' : World) : Prop := FsR F e ∧ Below w.heap.size w w'
abbrev resT (wr : World) (Q : Nat) (k : Int) (t : ByteArray) (a : Int) : World := ((wr.setCell ⟨Q, 0, none⟩ (.int .i64 k)).setCell ⟨Q, 1, none⟩ (.string t)).setCell ⟨Q, 2, none⟩ (.int .i64 a)
theorem resT_below {B Q : Nat} {w wr : World} {k a : Int} {t : ByteArray} (h : Below B w wr) (hR : B ≤ Q) : Below B w (resT wr Q k t a) := ((h.setCell hR _).setCell hR _).setCell hR _
def t3 (k : Int) (t : ByteArray) (a : Int) (j : Nat) : Value := ([.int .i64 k, .string t, .int .i64 a] : List Value).getD j undef
theorem row3 {w : World} {N : Nat} {k a : Int} {t : ByteArray} (h : w.heap[N]? = some (.cells #[.int .i64 k, .string t, .int .i64 a] 41 (0, 0))) : w.rowIs N 41 3 (t3 k t a) := by
  refine ⟨_, h, rfl, fun i hi => ?_⟩
  match i, hi with
  | 0, _ => rfl
  | 1, _ => rfl
  | 2, _ => rfl
theorem row_blk {N : Nat} {w w' : World} {t : TypeId} {n : Nat} {f : Nat → Value} (h : w.rowIs N t n f) (hb : w'.heap[N]? = w.heap[N]?) : w'.rowIs N t n f := by
  obtain ⟨c, h1, h2, h3⟩ := h
  exact ⟨c, by rw [hb]; exact h1, h2, h3⟩
abbrev zT : Obj := .cells #[.int .i64 0, .string { data := #[] }, .int .i64 0] 41
set_option maxHeartbeats 1000000 in
set_option maxRecDepth 100000 in
theorem as_no (k : Int) (s : ByteArray) (w : World) : Calls Tryz.prog 36 #[.int .i64 k, .string s, .bool false] w (FsP (.no 0) w) := by
  have HR := Lib.hid (row3 (heap_alloc_new w (zT)))
  have HB0 := Lib.hid ((Below.refl w.heap.size w).alloc (Nat.le_refl _) zT)
  go_enter Tryz.func36, Tryz.ntmps36
  go_wp2_with fail
  generalize w.alloc zT = w0 at HR HB0 ⊢
  have z0 := HR.out.cell (show 0 < 3 by decide)
  have z1 := HR.out.cell (show 1 < 3 by decide)
  have z2 := HR.out.cell (show 2 < 3 by decide)
  have g0 := HR.out.frozen 0
  have g1 := HR.out.frozen 1
  have g2 := HR.out.frozen 2
  simp only [t3, List.getD_cons_succ, List.getD_cons_zero] at z0 z1 z2
  go_wp2_with fail
  refine bodyPost_ret (v := .tuple #[.agg #[.int .i64 0, .string ByteArray.empty, .int .i64 0], .int .i64 0, .bool false]) (by simp [results, Tryz.results36, go_sem, z0, z1, z2]; try rfl) rfl ?_
  exact ⟨⟨0, _, rfl⟩, HB0.out⟩
set_option maxHeartbeats 1000000 in
set_option maxRecDepth 100000 in
theorem as_yes (k : Nat) (s : ByteArray) (hs : s.size ≤ 1000000) (w : World) : Calls Tryz.prog 36 #[.int .i64 (k : Nat), .string s, .bool true] w (FsP (.ok k s.data.toList s.size) w) := by
  have HR := Lib.hid (row3 (heap_alloc_new w (zT)))
  have HB0 := Lib.hid ((Below.refl w.heap.size w).alloc (Nat.le_refl _) zT)
  have HS0 := Lib.hid (show (w.alloc zT).heap.size = w.heap.size + 1 by simp)
  go_enter Tryz.func36, Tryz.ntmps36
  go_wp2_with fail
  generalize w.alloc zT = w0 at HR HB0 HS0 ⊢
  refine (clone_any s (by omega) w0).mono ?_
  rintro e w1 ⟨rfl, hb⟩
  have HR1 := Lib.hid (row_blk HR.out (hb.block _ (show w.heap.size < w0.heap.size by rw [HS0.out]; omega)))
  have HB1 := Lib.hid (HB0.out.trans (hb.mono (by rw [HS0.out]; omega)))
  clear hb
  have z0 := HR1.out.cell (show 0 < 3 by decide)
  have z1 := HR1.out.cell (show 1 < 3 by decide)
  have z2 := HR1.out.cell (show 2 < 3 by decide)
  have g0 := HR1.out.frozen 0
  have g1 := HR1.out.frozen 1
  have g2 := HR1.out.frozen 2
  simp only [t3, List.getD_cons_succ, List.getD_cons_zero] at z0 z1 z2
  go_wp2_with fail
  refine bodyPost_ret (v := .tuple #[.agg #[.int .i64 k, .string s, .int .i64 0], .int .i64 s.size, .bool true]) (by simp [results, Tryz.results36, go_sem, z0, z1, z2]; try rfl) rfl ?_
  exact ⟨rfl, resT_below HB1.out (Nat.le_refl _)⟩
end Go.Proofs.YtejniiehfangkaaGreatDoor
