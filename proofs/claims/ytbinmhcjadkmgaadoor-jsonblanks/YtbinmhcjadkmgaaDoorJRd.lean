/- cascade/json's reader: what it holds, and its small methods. -/
import Derived.Test.YtbinmhcjadkmgaaDoorTProgR
import Derived.Test.YtbinmhcjadkmgaaDoorJPos
import Derived.Test.YtbinmhcjadkmgaaDoorShelf
import Derived.Test.YtbinmhcjadkmgaaDoorBase
import Derived.Lib.BufferMore
import Derived.Lib.Builder
import Derived.Lib.Bytes2
import Derived.Deep.QuietTactic
import Derived.BigQuiet
set_option linter.unusedVariables false
set_option linter.unusedSimpArgs false
namespace Go.Proofs.YtbinmhcjadkmgaaDoor
open Go.RowKit
/-- All is kept but block N. -/
structure Kp (N : Nat) (w w' : World) : Prop where
  bel : Below N w w'
  size : w.heap.size ≤ w'.heap.size
  block : ∀ k, k ≠ N → k < w.heap.size → w'.heap[k]? = w.heap[k]?
theorem Kp.refl (N : Nat) (w : World) : Kp N w w := ⟨Below.refl _ _, Nat.le_refl _, fun _ _ _ => rfl⟩
theorem Kp.trans {N : Nat} {a b c : World} (h : Kp N a b) (k : Kp N b c) : Kp N a c :=
  ⟨h.bel.trans k.bel, Nat.le_trans h.size k.size, fun j hj hl => (k.block j hj (Nat.lt_of_lt_of_le hl h.size)).trans (h.block j hj hl)⟩
theorem Kp.of_below {N : Nat} {w w' : World} (h : Below w.heap.size w w') (hN : N < w.heap.size) : Kp N w w' := ⟨h.mono (by omega), h.size, fun k _ hk => h.block k hk⟩
theorem Kp.setN {N o : Nat} {a w : World} (h : Kp N a w) (v : Value) : Kp N a (w.setCell ⟨N, o, none⟩ v) :=
  ⟨h.bel.setCell (Nat.le_refl _) v, by rw [World.size_setCell]; exact h.size, fun k hk hl => by rw [Below.heap_setCell _ _ _ _ hk]; exact h.block k hk hl⟩
theorem Kp.cell {N : Nat} {w w' : World} (h : Kp N w w') {p : Addr} (h1 : p.block ≠ N) (h2 : p.block < w.heap.size) : w'.cell? p = w.cell? p := World.cell?_of_block (w := w) (h.block p.block h1 h2)
/-- A reader: its text, its place, its error and that one's place. -/
def Rdr (w : World) (R : Nat) (s : ByteArray) (a e b : Int) : Prop := w.heap[R]? = some (.cells #[.string s, .int .i64 a, .int .i64 e, .int .i64 b] 64 (0, 0))
theorem Rdr.lt {w : World} {R : Nat} {s : ByteArray} {a e b : Int} (h : Rdr w R s a e b) : R < w.heap.size := (Array.getElem?_eq_some_iff.1 h).1
theorem Rdr.c0 {w : World} {R : Nat} {s : ByteArray} {a e b : Int} (h : Rdr w R s a e b) : w.cell? ⟨R, 0, none⟩ = some (.string s) := Lib.cell_of_heap h 0
theorem Rdr.c1 {w : World} {R : Nat} {s : ByteArray} {a e b : Int} (h : Rdr w R s a e b) : w.cell? ⟨R, 1, none⟩ = some (.int .i64 a) := Lib.cell_of_heap h 1
theorem Rdr.c2 {w : World} {R : Nat} {s : ByteArray} {a e b : Int} (h : Rdr w R s a e b) : w.cell? ⟨R, 2, none⟩ = some (.int .i64 e) := Lib.cell_of_heap h 2
theorem Rdr.c3 {w : World} {R : Nat} {s : ByteArray} {a e b : Int} (h : Rdr w R s a e b) : w.cell? ⟨R, 3, none⟩ = some (.int .i64 b) := Lib.cell_of_heap h 3
theorem Rdr.fz {w : World} {R : Nat} {s : ByteArray} {a e b : Int} (h : Rdr w R s a e b) (j : Nat) : w.frozen? ⟨R, j, none⟩ = false := Lib.frozen_of_heap h j
theorem Rdr.set1 {w : World} {R : Nat} {s : ByteArray} {a e b : Int} (h : Rdr w R s a e b) (a' : Int) : Rdr (w.setCell ⟨R, 1, none⟩ (.int .i64 a')) R s a' e b := Lib.heap_setCell_same (i := 1) h _
theorem Rdr.set2 {w : World} {R : Nat} {s : ByteArray} {a e b : Int} (h : Rdr w R s a e b) (e' : Int) : Rdr (w.setCell ⟨R, 2, none⟩ (.int .i64 e')) R s a e' b := Lib.heap_setCell_same (i := 2) h _
theorem Rdr.set3 {w : World} {R : Nat} {s : ByteArray} {a e b : Int} (h : Rdr w R s a e b) (b' : Int) : Rdr (w.setCell ⟨R, 3, none⟩ (.int .i64 b')) R s a e b' := Lib.heap_setCell_same (i := 3) h _
theorem Rdr.below {w w' : World} {R : Nat} {s : ByteArray} {a e b : Int} (h : Rdr w R s a e b) (hb : Below w.heap.size w w') : Rdr w' R s a e b := (hb.block R h.lt).trans h
theorem Rdr.kp {w w' : World} {R N : Nat} {s : ByteArray} {a e b : Int} (h : Rdr w R s a e b) (hk : Kp N w w') (hn : R ≠ N) : Rdr w' R s a e b := (hk.block R hn h.lt).trans h
/-- What a method leaves: a reader, and all else kept. -/
def RdP (R : Nat) (w : World) (s : ByteArray) (a e b : Int) (w' : World) : Prop := Rdr w' R s a e b ∧ Kp R w w'
theorem RdP.trans {R : Nat} {w w1 w2 : World} {s s' : ByteArray} {a e b a' e' b' : Int} (h : RdP R w s a e b w1) (k : RdP R w1 s' a' e' b' w2) : RdP R w s' a' e' b' w2 := ⟨k.1, h.2.trans k.2⟩
theorem RdP.drewN {R : Nat} {w w1 : World} {s : ByteArray} {a e b : Int} (h : RdP R w s a e b w1) (n : Nat) : RdP R w s a e b (w1.drewN n) := ⟨h.1, ⟨⟨h.2.bel.os, h.2.bel.tape, h.2.bel.output, h.2.bel.size, h.2.bel.block⟩, h.2.size, h.2.block⟩⟩
theorem RdP.drew {R : Nat} {w w1 : World} {s : ByteArray} {a e b : Int} (h : RdP R w s a e b w1) : RdP R w s a e b w1.drew := ⟨h.1, ⟨⟨h.2.bel.os, h.2.bel.tape, h.2.bel.output, h.2.bel.size, h.2.bel.block⟩, h.2.size, h.2.block⟩⟩
theorem RdP.set1 {R : Nat} {w w1 : World} {s : ByteArray} {a e b : Int} (h : RdP R w s a e b w1) (a' : Int) : RdP R w s a' e b (w1.setCell ⟨R, 1, none⟩ (.int .i64 a')) := ⟨h.1.set1 a', h.2.setN _⟩
theorem RdP.below {R : Nat} {w w1 w2 : World} {s : ByteArray} {a e b : Int} (h : RdP R w s a e b w1) (hb : Below w1.heap.size w1 w2) : RdP R w s a e b w2 := ⟨h.1.below hb, h.2.trans (Kp.of_below hb h.1.lt)⟩
theorem RdP.start {R : Nat} {w : World} {s : ByteArray} {a e b : Int} (h : Rdr w R s a e b) : RdP R w s a e b w := ⟨h, Kp.refl _ _⟩
/-! ### fail -/
set_option maxRecDepth 100000 in
theorem fail_first (R : Nat) (s : ByteArray) (a b at_ e_ : Int) (w : World) (h : Rdr w R s a 0 b) : Calls Tryd.prog 43 #[.pointer (some ⟨R, 0, none⟩), .int .i64 at_, .int .i64 e_] w fun e w' => e = .returned (.tuple #[]) ∧ RdP R w s a e_ at_ w' := by
  have c2 := h.c2
  have f2 := h.fz 2
  have f3 := h.fz 3
  have c3 := h.c3
  have HH := Lib.hid h
  clear h
  go_enter Tryd.func43, Tryd.ntmps43
  go_wp2_with fail
  go_end0
  exact ⟨rfl, (HH.out.set2 _).set3 _, ((Kp.refl _ _).setN _).setN _⟩
set_option maxRecDepth 100000 in
theorem fail_more (R : Nat) (s : ByteArray) (a b e0 at_ e_ : Int) (w : World) (h : Rdr w R s a e0 b) (h0 : e0 ≠ 0) : Calls Tryd.prog 43 #[.pointer (some ⟨R, 0, none⟩), .int .i64 at_, .int .i64 e_] w fun e w' => e = .returned (.tuple #[]) ∧ RdP R w s a e0 b w' := by
  have c2 := h.c2
  have hne : (e0 == 0) = false := by simpa using h0
  have HH := Lib.hid h
  clear h
  go_enter Tryd.func43, Tryd.ntmps43
  go_wp2_with fail
  go_end0
  exact ⟨rfl, HH.out, Kp.refl _ _⟩
/-! ### blanks -/
/-- A reader's place, out of the memory. -/
def rdAt (R : Nat) (w : World) : Nat := match w.cell? ⟨R, 1, none⟩ with
  | some (.int _ v) => v.toNat
  | _ => 0
theorem Rdr.rdAt {w : World} {R : Nat} {s : ByteArray} {a : Nat} {e b : Int} (h : Rdr w R s a e b) : rdAt R w = a := by unfold Go.Proofs.YtbinmhcjadkmgaaDoor.rdAt; rw [h.c1]; simp
theorem idx_bl : ∀ c : Fin 256, decide (0 ≤ Lib.indexByte [32, 9, 10, 13] (UInt8.ofNat c.val)) = isBl c.val := by decide +kernel
theorem idx_bl' (s : ByteArray) (i : Nat) (h : i < s.size) : decide (0 ≤ Lib.indexByte [32, 9, 10, 13] (s[i]'h)) = isBl (s.get! i).toNat := by
  have hg : s.get! i = s[i]'h := get_bang s i h
  have := idx_bl ⟨(s[i]'h).toNat, UInt8.toNat_lt _⟩
  rw [hg, ← this]
  simp
set_option maxHeartbeats 400000 in
set_option maxRecDepth 100000 in
theorem blanks_any (R : Nat) (s : ByteArray) (a : Nat) (e b : Int) (w : World) (h : Rdr w R s a e b) (ha : a ≤ s.size) (hs : s.size ≤ 1000000) : Calls Tryd.prog 42 #[.pointer (some ⟨R, 0, none⟩)] w fun e' w' => e' = .returned (.tuple #[]) ∧ RdP R w s (blk s a) e b w' := by
  have HH := Lib.hid h
  clear h
  go_enter Tryd.func42, Tryd.ntmps42
  go_wp2_with fail
  go_loopw [] (fun wr => ∃ i : Nat, i ≤ s.size ∧ RdP R w s i e b wr ∧ blk s i = blk s a) (fun wr => s.size - rdAt R wr)
  case atStart => exact ⟨a, ha, ⟨HH.out, Kp.refl _ _⟩, rfl⟩
  case round =>
    obtain ⟨i, hi, hp, hbk⟩ := hrel
    have c0 := hp.1.c0
    have c1 := hp.1.c1
    have f1 := hp.1.fz 1
    have HP := Lib.hid hp
    have HBK := Lib.hid hbk
    clear hp hbk
    by_cases hlt : i < s.size
    · have hix := idx_bl' s i hlt
      by_cases hbl : isBl (s.get! i).toNat = true
      · have HBS := Lib.hid (blk_step hlt hbl)
        rw [hbl] at hix
        clear hbl
        go_wp2_with fail
        go_quiet (first
          | (go_at_call 60; exact (Tryd.strings_IndexByte ⟨#[32, 9, 10, 13]⟩ _ _).mono (fun e w' h => ⟨h.1, _, h.2⟩))
          | fail)
        go_wp2_with fail
        have HQ := (HP.out.drewN nq).set1 (((i + 1 : Nat) : Int))
        rw [Int.natCast_add] at HQ
        refine ⟨⟨i + 1, by omega, by rw [Int.natCast_add]; exact HQ, by rw [HBS.out, HBK.out]⟩, ?_⟩
        have e1 := HQ.1.rdAt (a := i + 1)
        have e2 := HP.out.1.rdAt
        rw [e2]
        have e3 : rdAt R ((wr.drewN nq).setCell ⟨R, 1, none⟩ (.int .i64 ((i : Int) + 1))) = i + 1 := e1
        rw [e3]
        omega
      · have hbl : isBl (s.get! i).toNat = false := by simpa using hbl
        have HS := Lib.hid (blk_stop (s := s) (i := i) (fun x => by rw [hbl] at x; cases x.2))
        rw [hbl] at hix
        clear hbl
        go_wp2_with fail
        go_quiet (first
          | (go_at_call 60; exact (Tryd.strings_IndexByte ⟨#[32, 9, 10, 13]⟩ _ _).mono (fun e w' h => ⟨h.1, _, h.2⟩))
          | fail)
        go_wp2_with fail
        go_end0
        exact ⟨rfl, by rw [← HBK.out, HS.out]; exact HP.out.drewN _⟩
    · have HS := Lib.hid (blk_stop (s := s) (i := i) (fun x => hlt x.1))
      go_wp2_with fail
      go_quiet (first
        | (go_at_call 60; exact (Tryd.strings_IndexByte ⟨#[32, 9, 10, 13]⟩ _ _).mono (fun e w' h => ⟨h.1, _, h.2⟩))
        | fail)
      go_wp2_with fail
      go_end0
      exact ⟨rfl, by rw [← HBK.out, HS.out]; exact HP.out.drewN _⟩
/-! ### takes -/
set_option maxHeartbeats 400000 in
set_option maxRecDepth 100000 in
theorem takes_no (R : Nat) (s p : ByteArray) (a : Nat) (e b : Int) (w : World) (h : Rdr w R s a e b) (ha : a ≤ s.size) (hs : s.size ≤ 1000000) (hp : preAt s a p = false) : Calls Tryd.prog 62 #[.pointer (some ⟨R, 0, none⟩), .string p] w fun e' w' => e' = .returned (.bool false) ∧ RdP R w s a e b w' := by
  have HH := Lib.hid h
  have c0 := h.c0
  have c1 := h.c1
  have K : ∀ n, Calls Tryd.prog 77 #[.string (s.extract a s.size), .string p] (w.drewN n) fun e w' => e = .returned (.bool false) ∧ ∃ m, w' = w.drewN m := fun n => by
    refine (prefix_any (s.extract a s.size) p _).mono ?_
    rintro e w' ⟨rfl, rfl⟩
    unfold preAt at hp
    exact ⟨by rw [hp], n, rfl⟩
  have K := Lib.hid K
  clear h hp
  go_enter Tryd.func62, Tryd.ntmps62
  go_wp2_with fail
  go_quiet (first
    | (go_at_call 77; exact K.out _)
    | fail)
  go_wp2_with fail
  go_ret
  exact ⟨rfl, (RdP.start HH.out).drewN _⟩
set_option maxHeartbeats 400000 in
set_option maxRecDepth 100000 in
theorem takes_yes (R : Nat) (s p : ByteArray) (a : Nat) (e b : Int) (w : World) (h : Rdr w R s a e b) (ha : a ≤ s.size) (hs : s.size ≤ 1000000) (hp : preAt s a p = true) : Calls Tryd.prog 62 #[.pointer (some ⟨R, 0, none⟩), .string p] w fun e' w' => e' = .returned (.bool true) ∧ RdP R w s ((a + p.size : Nat) : Int) e b w' := by
  have HH := Lib.hid h
  have c0 := h.c0
  have c1 := h.c1
  have f1 := h.fz 1
  have hl := pre_len hp ha
  have K : ∀ n, Calls Tryd.prog 77 #[.string (s.extract a s.size), .string p] (w.drewN n) fun e w' => e = .returned (.bool true) ∧ ∃ m, w' = w.drewN m := fun n => by
    refine (prefix_any (s.extract a s.size) p _).mono ?_
    rintro e w' ⟨rfl, rfl⟩
    unfold preAt at hp
    exact ⟨by rw [hp], n, rfl⟩
  have K := Lib.hid K
  clear h hp
  go_enter Tryd.func62, Tryd.ntmps62
  go_wp2_with fail
  go_quiet (first
    | (go_at_call 77; exact K.out _)
    | fail)
  go_wp2_with fail
  go_ret
  exact ⟨rfl, by rw [Int.natCast_add]; exact ((RdP.start HH.out).drewN _).set1 _⟩
/-! ### sign, must, end -/
set_option maxRecDepth 100000 in
theorem sign_no (R : Nat) (s p : ByteArray) (a : Nat) (e b : Int) (w : World) (h : Rdr w R s a e b) (ha : a ≤ s.size) (hs : s.size ≤ 1000000) (hp : sgn s a p = false) : Calls Tryd.prog 82 #[.pointer (some ⟨R, 0, none⟩), .string p] w fun e' w' => e' = .returned (.bool false) ∧ RdP R w s (blk s a) e b w' := by
  have HH := Lib.hid h
  have HP := Lib.hid hp
  clear h hp
  go_enter Tryd.func82, Tryd.ntmps82
  go_wp2_with fail
  refine (blanks_any R s a e b w HH.out ha hs).mono ?_
  rintro e' w1 ⟨rfl, h1⟩
  have H1 := Lib.hid h1
  clear h1
  go_wp2_with fail
  refine (takes_no R s p (blk s a) e b w1 H1.out.1 (blk_le ha) hs HP.out).mono ?_
  rintro e' w2 ⟨rfl, h2⟩
  go_wp2_with fail
  go_ret
  exact ⟨rfl, H1.out.trans h2⟩
set_option maxRecDepth 100000 in
theorem sign_yes (R : Nat) (s p : ByteArray) (a : Nat) (e b : Int) (w : World) (h : Rdr w R s a e b) (ha : a ≤ s.size) (hs : s.size ≤ 1000000) (hp : sgn s a p = true) : Calls Tryd.prog 82 #[.pointer (some ⟨R, 0, none⟩), .string p] w fun e' w' => e' = .returned (.bool true) ∧ RdP R w s ((blk s a + p.size : Nat) : Int) e b w' := by
  have HH := Lib.hid h
  have HP := Lib.hid hp
  clear h hp
  go_enter Tryd.func82, Tryd.ntmps82
  go_wp2_with fail
  refine (blanks_any R s a e b w HH.out ha hs).mono ?_
  rintro e' w1 ⟨rfl, h1⟩
  have H1 := Lib.hid h1
  clear h1
  go_wp2_with fail
  refine (takes_yes R s p (blk s a) e b w1 H1.out.1 (blk_le ha) hs HP.out).mono ?_
  rintro e' w2 ⟨rfl, h2⟩
  go_wp2_with fail
  go_ret
  exact ⟨rfl, H1.out.trans h2⟩
set_option maxRecDepth 100000 in
theorem must_yes (R : Nat) (s p : ByteArray) (a : Nat) (e b : Int) (w : World) (h : Rdr w R s a e b) (ha : a ≤ s.size) (hs : s.size ≤ 1000000) (hp : sgn s a p = true) : Calls Tryd.prog 68 #[.pointer (some ⟨R, 0, none⟩), .string p] w fun e' w' => e' = .returned (.tuple #[]) ∧ RdP R w s ((blk s a + p.size : Nat) : Int) e b w' := by
  have K := Lib.hid (sign_yes R s p a e b w h ha hs hp)
  clear h hp
  go_enter Tryd.func68, Tryd.ntmps68
  go_wp2_with fail
  refine K.out.mono ?_
  rintro e' w1 ⟨rfl, h1⟩
  have H1 := Lib.hid h1
  clear h1
  go_wp2_with fail
  go_end0
  exact ⟨rfl, H1.out⟩
set_option maxRecDepth 100000 in
theorem must_no (R : Nat) (s p : ByteArray) (a : Nat) (b : Int) (w : World) (h : Rdr w R s a 0 b) (ha : a ≤ s.size) (hs : s.size ≤ 1000000) (hp : sgn s a p = false) : Calls Tryd.prog 68 #[.pointer (some ⟨R, 0, none⟩), .string p] w fun e' w' => e' = .returned (.tuple #[]) ∧ RdP R w s (blk s a) 4 (blk s a) w' := by
  have K := Lib.hid (sign_no R s p a 0 b w h ha hs hp)
  clear h hp
  go_enter Tryd.func68, Tryd.ntmps68
  go_wp2_with fail
  refine K.out.mono ?_
  rintro e' w1 ⟨rfl, h1⟩
  have H1 := Lib.hid h1
  have c1 := h1.1.c1
  clear h1
  go_wp2_with fail
  refine (fail_first R s _ b _ 4 w1 H1.out.1).mono ?_
  rintro e' w2 ⟨rfl, h2⟩
  go_wp2_with fail
  go_end0
  exact ⟨rfl, H1.out.trans h2⟩
set_option maxRecDepth 100000 in
theorem must_bad (R : Nat) (s p : ByteArray) (a : Nat) (e b : Int) (w : World) (h : Rdr w R s a e b) (he : e ≠ 0) (ha : a ≤ s.size) (hs : s.size ≤ 1000000) : Calls Tryd.prog 68 #[.pointer (some ⟨R, 0, none⟩), .string p] w fun e' w' => e' = .returned (.tuple #[]) ∧ ∃ a' : Nat, a' ≤ s.size ∧ RdP R w s a' e b w' := by
  by_cases hp : sgn s a p = true
  · refine (must_yes R s p a e b w h ha hs hp).mono ?_
    rintro e' w' ⟨rfl, h1⟩
    exact ⟨rfl, _, pre_len hp (blk_le ha), h1⟩
  · have hp : sgn s a p = false := by simpa using hp
    have K := Lib.hid (sign_no R s p a e b w h ha hs hp)
    have HE := Lib.hid he
    clear h hp he
    go_enter Tryd.func68, Tryd.ntmps68
    go_wp2_with fail
    refine K.out.mono ?_
    rintro e' w1 ⟨rfl, h1⟩
    have H1 := Lib.hid h1
    have c1 := h1.1.c1
    clear h1
    go_wp2_with fail
    refine (fail_more R s _ b e _ 4 w1 H1.out.1 HE.out).mono ?_
    rintro e' w2 ⟨rfl, h2⟩
    go_wp2_with fail
    go_end0
    exact ⟨rfl, _, blk_le ha, H1.out.trans h2⟩
end Go.Proofs.YtbinmhcjadkmgaaDoor
