/- All tokens of a text: token.Lex, walked. -/
import Derived.Test.YtejniiehfangkaaGreatDoorKLexA
import Derived.Deep.AppendLies
import Derived.Maps.AppendAt
set_option linter.unusedVariables false
set_option linter.unusedSimpArgs false
namespace Go.Proofs.YtejniiehfangkaaGreatDoor
open Go.RowKit
abbrev zF : Obj := .cells #[.int .i64 0, .int .i64 0] 26
def t2 (a b : Int) (j : Nat) : Value := ([.int .i64 a, .int .i64 b] : List Value).getD j undef
/-- The result's place: a fault, none yet. -/
def Flt (w : World) (Q : Nat) : Prop := w.heap[Q]? = some (.cells #[.int .i64 0, .int .i64 0] 26 (0, 0))
theorem Flt.row {w : World} {Q : Nat} (h : Flt w Q) : w.rowIs Q 26 2 (t2 0 0) := by
  refine ⟨_, h, rfl, fun i hi => ?_⟩
  match i, hi with
  | 0, _ => rfl
  | 1, _ => rfl
theorem Flt.lt {w : World} {Q : Nat} (h : Flt w Q) : Q < w.heap.size := (Array.getElem?_eq_some_iff.1 h).1
abbrev resF (wr : World) (Q : Nat) (a b : Int) : World := (wr.setCell ⟨Q, 0, none⟩ (.int .i64 a)).setCell ⟨Q, 1, none⟩ (.int .i64 b)
theorem resF_below {B Q : Nat} {w wr : World} {a b : Int} (h : Below B w wr) (hR : B ≤ Q) : Below B w (resF wr Q a b) := (h.setCell hR _).setCell hR _
/-- What Lex leaves. -/
def LxP (G : Toks) (w : World) (e : Ending) (w' : World) : Prop := Below w.heap.size w w' ∧ match G with
  | .inl ts => ∃ v : Value, e = .returned (.tuple #[v, .agg #[.int .i64 0, .int .i64 0]]) ∧ w'.ownsRow w.heap.size 41 3 v ts.length (tkCs ts)
  | .inr q => e = .returned (.tuple #[.slice none 0 0, .agg #[.int .i64 q.1, .int .i64 (q.2 : Nat)]])
theorem infoT : (Tryz.prog.info? 41).map (fun i => (i.zero, i.size, i.bytes)) = some (some (.agg #[.int .i64 0, .string ⟨#[]⟩, .int .i64 0]), 3, 32) := by kernel_rfl
theorem ret_int' {k : IntKind} {a b : Int} (h : a = b) : Value.int k a = .int k b := by rw [h]
set_option maxHeartbeats 1000000 in
set_option maxRecDepth 100000 in
theorem lex_long (x : ByteArray) (hl : 4000 < x.size) (w : World) : Calls Tryz.prog 10 #[.string x] w (LxP (.inr (6, 0)) w) := by
  have HF := Lib.hid (show Flt (w.alloc zF) w.heap.size from heap_alloc_new w zF)
  have HB0 := Lib.hid ((Below.refl w.heap.size w).alloc (Nat.le_refl _) zF)
  have hgt : decide ((4000 : Int) < (x.size : Int)) = true := decide_eq_true (by omega)
  go_enter Tryz.func10, Tryz.ntmps10
  go_wp2_with fail
  refine bodyPost_ret (v := .tuple #[.slice none 0 0, .agg #[.int .i64 6, .int .i64 0]]) (by simp [results, Tryz.results10, go_sem]; try rfl) rfl ?_
  exact ⟨(Below.refl _ _).alloc (Nat.le_refl _) _, rfl⟩
set_option maxHeartbeats 1000000 in
set_option maxRecDepth 100000 in
theorem lex_bad (x : ByteArray) (hl : x.size ≤ 4000) (b : Nat) (hb : badI x = (b : Nat)) (w : World) : Calls Tryz.prog 10 #[.string x] w (LxP (.inr (2, b)) w) := by
  have HF := Lib.hid (show Flt (w.alloc zF) w.heap.size from heap_alloc_new w zF)
  have HB0 := Lib.hid ((Below.refl w.heap.size w).alloc (Nat.le_refl _) zF)
  have HS0 := Lib.hid (show (w.alloc zF).heap.size = w.heap.size + 1 by simp)
  have hgt : decide ((4000 : Int) < (x.size : Int)) = false := decide_eq_false (by omega)
  have hge : decide ((0 : Int) ≤ (b : Int)) = true := decide_eq_true (by omega)
  have KB : Hid (∀ W, Calls Tryz.prog 18 #[.string x] W fun e w' => e = .returned (.int .i64 (b : Nat)) ∧ Below W.heap.size W w') := Lib.hid (fun W => by rw [← hb]; exact bad_any x (by unfold maxLen; omega) W)
  clear hb
  go_enter Tryz.func10, Tryz.ntmps10
  go_wp2_with fail
  generalize w.alloc zF = w0 at HF HB0 HS0 ⊢
  refine (KB.out w0).mono ?_
  rintro e w1 ⟨rfl, hb1⟩
  have HF1 := Lib.hid (show Flt w1 w.heap.size from (hb1.block _ (by rw [HS0.out]; omega)).trans HF.out)
  have HB1 := Lib.hid (HB0.out.trans (hb1.mono (by rw [HS0.out]; omega)))
  clear hb1 KB
  have z0 := HF1.out.row.cell (show 0 < 2 by decide)
  have z1 := HF1.out.row.cell (show 1 < 2 by decide)
  have g0 := HF1.out.row.frozen 0
  have g1 := HF1.out.row.frozen 1
  simp only [t2, List.getD_cons_succ, List.getD_cons_zero] at z0 z1
  go_wp2_with fail
  refine bodyPost_ret (v := .tuple #[.slice none 0 0, .agg #[.int .i64 2, .int .i64 (b : Nat)]]) (by simp [results, Tryz.results10, go_sem, z0, z1]; try rfl) rfl ?_
  exact ⟨resF_below HB1.out (Nat.le_refl _), rfl⟩
theorem own_belowT {w w' : World} {base : Nat} {e : TypeId} {size : Nat} {v : Value} {n : Nat} {xs : List Value} (h : w.ownsRow base e size v n xs) (hb : Below w.heap.size w w') : w'.ownsRow base e size v n xs := by
  exact Bk.own_below h hb (Nat.le_refl _)
/-- Between two tokens: ts so far, e the place behind them. -/
structure LxI (x : ByteArray) (G : Toks) (w : World) (v : Value) (ts : List Tkn) (e f : Nat) (wr : World) : Prop where
  hes : e ≤ x.size
  hlen : ts.length ≤ e
  own : wr.ownsRow (w.heap.size + 1) 41 3 v ts.length (tkCs ts)
  bel : Below w.heap.size w wr
  flt : Flt wr w.heap.size
  hf : x.size < e + f
  hG : consT ts (lexF f (x.data.toList.drop e) e ts.length (nbT ts)) = G
theorem LxI.go {x : ByteArray} {G : Toks} {w wr w' : World} {v : Value} {ts : List Tkn} {e f : Nat} (h : LxI x G w v ts e f wr) (hb : Below wr.heap.size wr w') : LxI x G w v ts e f w' :=
  ⟨h.hes, h.hlen, own_belowT h.own hb, h.bel.trans (hb.mono h.bel.size), (hb.block _ h.flt.lt).trans h.flt, h.hf, h.hG⟩
end Go.Proofs.YtejniiehfangkaaGreatDoor
