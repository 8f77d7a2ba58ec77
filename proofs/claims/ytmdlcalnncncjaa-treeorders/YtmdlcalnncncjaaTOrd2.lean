/- The comparison that tree.Ordered sorts by. -/
import Derived.Test.YtmdlcalnncncjaaTRank
import Derived.Deep.TreeCalls
set_option linter.unusedVariables false
set_option linter.unusedSimpArgs false
namespace Go.Proofs.Ytmdlcalnncncjaa
open Go.RowKit
abbrev closR (Mv Kv : Nat) : Value := .func (.func 80) #[] #[.pointer (some ⟨Mv, 0, none⟩), .pointer (some ⟨Kv, 0, none⟩)]
/-- What the comparison's drawn statement loads. -/
def S13 (Rv Mv Kv P Q : Nat) (k1 k2 : ByteArray) (u1 u2 : Hd) (w : World) : Prop := w.cell? ⟨Rv, 0, none⟩ = some (closR Mv Kv) ∧ w.cell? ⟨P, 0, none⟩ = some (.string k1) ∧ w.cell? ⟨P, 1, none⟩ = some (.int .i64 u1.k) ∧ w.cell? ⟨P, 2, none⟩ = some (.int .i64 u1.n) ∧ w.cell? ⟨P, 3, none⟩ = some (.string u1.s) ∧ w.cell? ⟨P, 4, none⟩ = some (.slice u1.A u1.la u1.lc) ∧ w.cell? ⟨P, 5, none⟩ = some (.slice u1.F u1.lf u1.fc) ∧ w.cell? ⟨Q, 0, none⟩ = some (.string k2) ∧ w.cell? ⟨Q, 1, none⟩ = some (.int .i64 u2.k) ∧ w.cell? ⟨Q, 2, none⟩ = some (.int .i64 u2.n) ∧ w.cell? ⟨Q, 3, none⟩ = some (.string u2.s) ∧ w.cell? ⟨Q, 4, none⟩ = some (.slice u2.A u2.la u2.lc) ∧ w.cell? ⟨Q, 5, none⟩ = some (.slice u2.F u2.lf u2.fc)
theorem S13.imp {Rv Mv Kv P Q : Nat} {k1 k2 : ByteArray} {u1 u2 : Hd} {w w' : World} (h : S13 Rv Mv Kv P Q k1 k2 u1 u2 w) (hR : w'.heap[Rv]? = w.heap[Rv]?) (hP : w'.heap[P]? = w.heap[P]?) (hQ : w'.heap[Q]? = w.heap[Q]?) : S13 Rv Mv Kv P Q k1 k2 u1 u2 w' := by
  obtain ⟨a0, b0, b1, b2, b3, b4, b5, c0, c1, c2, c3, c4, c5⟩ := h
  exact ⟨(World.cell?_of_block (a := ⟨Rv, 0, none⟩) hR).trans a0, (World.cell?_of_block (a := ⟨P, 0, none⟩) hP).trans b0, (World.cell?_of_block (a := ⟨P, 1, none⟩) hP).trans b1, (World.cell?_of_block (a := ⟨P, 2, none⟩) hP).trans b2, (World.cell?_of_block (a := ⟨P, 3, none⟩) hP).trans b3, (World.cell?_of_block (a := ⟨P, 4, none⟩) hP).trans b4, (World.cell?_of_block (a := ⟨P, 5, none⟩) hP).trans b5, (World.cell?_of_block (a := ⟨Q, 0, none⟩) hQ).trans c0, (World.cell?_of_block (a := ⟨Q, 1, none⟩) hQ).trans c1, (World.cell?_of_block (a := ⟨Q, 2, none⟩) hQ).trans c2, (World.cell?_of_block (a := ⟨Q, 3, none⟩) hQ).trans c3, (World.cell?_of_block (a := ⟨Q, 4, none⟩) hQ).trans c4, (World.cell?_of_block (a := ⟨Q, 5, none⟩) hQ).trans c5⟩
theorem S13.bel {Rv Mv Kv P Q : Nat} {k1 k2 : ByteArray} {u1 u2 : Hd} {w w' : World} (h : S13 Rv Mv Kv P Q k1 k2 u1 u2 w) (hb : Below w.heap.size w w') : S13 Rv Mv Kv P Q k1 k2 u1 u2 w' :=
  h.imp (hb.block _ (World.block_lt_of_cell? w _ h.1)) (hb.block _ (World.block_lt_of_cell? w _ h.2.1)) (hb.block _ (World.block_lt_of_cell? w _ h.2.2.2.2.2.2.2.1))
theorem S13.start {Rv Mv Kv : Nat} {k1 k2 : ByteArray} {u1 u2 : Hd} {w : World} (h : w.cell? ⟨Rv, 0, none⟩ = some (closR Mv Kv)) : S13 Rv Mv Kv w.heap.size (w.heap.size + 1) k1 k2 u1 u2 ((w.alloc (Obj.cells #[.string k1, .int .i64 u1.k, .int .i64 u1.n, .string u1.s, .slice u1.A u1.la u1.lc, .slice u1.F u1.lf u1.fc] 36)).alloc (Obj.cells #[.string k2, .int .i64 u2.k, .int .i64 u2.n, .string u2.s, .slice u2.A u2.la u2.lc, .slice u2.F u2.lf u2.fc] 36)) := by
  have hR : Rv < w.heap.size := World.block_lt_of_cell? w _ h
  refine ⟨(World.cell?_alloc_past _ _ _ (by simp; omega)).trans ((World.cell?_alloc_past _ _ _ hR).trans h), (World.cell?_alloc_past _ _ _ (by simp)).trans (World.cell?_alloc_new w _ _ 0), (World.cell?_alloc_past _ _ _ (by simp)).trans (World.cell?_alloc_new w _ _ 1), (World.cell?_alloc_past _ _ _ (by simp)).trans (World.cell?_alloc_new w _ _ 2), (World.cell?_alloc_past _ _ _ (by simp)).trans (World.cell?_alloc_new w _ _ 3), (World.cell?_alloc_past _ _ _ (by simp)).trans (World.cell?_alloc_new w _ _ 4), (World.cell?_alloc_past _ _ _ (by simp)).trans (World.cell?_alloc_new w _ _ 5), (World.cell?_alloc_at _ _ _ _ (by simp)).trans rfl, (World.cell?_alloc_at _ _ _ _ (by simp)).trans rfl, (World.cell?_alloc_at _ _ _ _ (by simp)).trans rfl, (World.cell?_alloc_at _ _ _ _ (by simp)).trans rfl, (World.cell?_alloc_at _ _ _ _ (by simp)).trans rfl, (World.cell?_alloc_at _ _ _ _ (by simp)).trans rfl⟩
/-- What the comparison answers. -/
def OrdR (keys : List ByteArray) (k1 k2 : ByteArray) (w : World) (e : Ending) (w' : World) : Prop := (∃ r1 r2 : Int, RankP keys k1 r1 ∧ RankP keys k2 r2 ∧ e = .returned (.int .i64 (cmpI r1 r2))) ∧ Below w.heap.size w w'
set_option maxHeartbeats 400000 in
set_option maxRecDepth 100000 in
theorem ord_any (keys : List ByteArray) (k1 k2 : ByteArray) (u1 u2 : Hd) (Rv Mv Kv b n : Nat) (D : DataW Unit) (K : Option Addr) (kc : Nat) (w : World) (hk1 : k1.size ≤ maxLen) (hk2 : k2.size ≤ maxLen) (H : RankAt w Mv Kv keys b n D K kc) (hr : w.cell? ⟨Rv, 0, none⟩ = some (closR Mv Kv)) :
    Calls Try.prog 82 #[.agg #[.string k1, .int .i64 u1.k, .int .i64 u1.n, .string u1.s, .slice u1.A u1.la u1.lc, .slice u1.F u1.lf u1.fc], .agg #[.string k2, .int .i64 u2.k, .int .i64 u2.n, .string u2.s, .slice u2.A u2.la u2.lc, .slice u2.F u2.lf u2.fc], .pointer (some ⟨Rv, 0, none⟩)] w fun e w' => OrdR keys k1 k2 w e w' := by
  have hs := S13.start (k1 := k1) (k2 := k2) (u1 := u1) (u2 := u2) hr
  have hb0 : Below w.heap.size w ((w.alloc (Obj.cells #[.string k1, .int .i64 u1.k, .int .i64 u1.n, .string u1.s, .slice u1.A u1.la u1.lc, .slice u1.F u1.lf u1.fc] 36)).alloc (Obj.cells #[.string k2, .int .i64 u2.k, .int .i64 u2.n, .string u2.s, .slice u2.A u2.la u2.lc, .slice u2.F u2.lf u2.fc] 36)) := ((Below.refl _ _).alloc (Nat.le_refl _) _).alloc (by simp) _
  have hrk := H.below hb0
  clear H
  go_enter Try.func82, Try.ntmps82
  go_wp2_with fail
  generalize (w.alloc (Obj.cells #[.string k1, .int .i64 u1.k, .int .i64 u1.n, .string u1.s, .slice u1.A u1.la u1.lc, .slice u1.F u1.lf u1.fc] 36)).alloc (Obj.cells #[.string k2, .int .i64 u2.k, .int .i64 u2.n, .string u2.s, .slice u2.A u2.la u2.lc, .slice u2.F u2.lf u2.fc] 36) = w2 at hs hb0 hrk ⊢
  have HB0 := Lib.hid hb0
  have HRK := Lib.hid hrk
  have HS := Lib.hid (S13.imp (w' := w2.drew) hs rfl rfl rfl)
  have HC1 := Lib.hid (rank_any keys k1 u1 Mv Kv b n D K kc w2.drew hk1 (hrk.below ((Below.refl _ _).drew)))
  have HC2 := Lib.hid (show ∀ w3, Below w2.drew.heap.size w2.drew w3 → _ from fun w3 hb => rank_any keys k2 u2 Mv Kv b n D K kc w3 hk2 ((hrk.below ((Below.refl _ _).drew)).below hb))
  have HC3 := Lib.hid (fun (x y : Int) (w9 : World) => compare_any x y w9)
  obtain ⟨a0, b0, b1, b2, b3, b4, b5, c0, c1, c2, c3, c4, c5⟩ := hs
  clear hrk hb0
  go_region_held3 (fun w' => w'.cell? ⟨Rv, 0, none⟩ = some (closR Mv Kv) ∧ w'.cell? ⟨w.heap.size, 0, none⟩ = some (.string k1) ∧ w'.cell? ⟨w.heap.size, 1, none⟩ = some (.int .i64 u1.k) ∧ w'.cell? ⟨w.heap.size, 2, none⟩ = some (.int .i64 u1.n) ∧ w'.cell? ⟨w.heap.size, 3, none⟩ = some (.string u1.s) ∧ w'.cell? ⟨w.heap.size, 4, none⟩ = some (.slice u1.A u1.la u1.lc) ∧ w'.cell? ⟨w.heap.size, 5, none⟩ = some (.slice u1.F u1.lf u1.fc) ∧ w'.cell? ⟨w.heap.size + 1, 0, none⟩ = some (.string k2) ∧ w'.cell? ⟨w.heap.size + 1, 1, none⟩ = some (.int .i64 u2.k) ∧ w'.cell? ⟨w.heap.size + 1, 2, none⟩ = some (.int .i64 u2.n) ∧ w'.cell? ⟨w.heap.size + 1, 3, none⟩ = some (.string u2.s) ∧ w'.cell? ⟨w.heap.size + 1, 4, none⟩ = some (.slice u2.A u2.la u2.lc) ∧ w'.cell? ⟨w.heap.size + 1, 5, none⟩ = some (.slice u2.F u2.lf u2.fc))
    (first
      | go_keep
      | (exact S13.bel HS.out hb3)
      | (exact S13.bel (S13.bel HS.out hb3) hb4)
      | skip)
    (first
      | (go_at_call 83; refine (Hid.out HC3 _ _ _).mono ?_; rintro e w5 ⟨rfl, rfl⟩)
      | (go_at_call_of 80 (Value.string k1); refine (Hid.out HC1).mono ?_; rintro e w3 ⟨⟨r1, rfl, hr1⟩, hb3⟩; have HR1 := Lib.hid hr1; clear hr1)
      | (go_at_call_of 80 (Value.string k2); refine (Hid.out HC2 _ hb3).mono ?_; rintro e w4 ⟨⟨r2, rfl, hr2⟩, hb4⟩; have HR2 := Lib.hid hr2; clear hr2)
      | fail)
  all_goals go_wp2_with fail
  all_goals go_ret
  all_goals exact ⟨⟨r1, r2, HR1.out, HR2.out, rfl⟩, HB0.out.trans ((((Below.refl _ _).drew).trans (hb3.trans (hb4.mono hb3.size))).mono HB0.out.size)⟩
end Go.Proofs.Ytmdlcalnncncjaa
