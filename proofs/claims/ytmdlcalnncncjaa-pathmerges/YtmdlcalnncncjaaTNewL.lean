/- What tree.anew leaves, step by step. -/
import Derived.Test.YtmdlcalnncncjaaTOwn
import Derived.Deep.RegionHeld3
import Derived.Deep.RegionLaw
import Derived.Deep.DrawnRows
import Derived.Deep.CutRange
import Derived.Deep.OwnRows
set_option linter.unusedVariables false
set_option linter.unusedSimpArgs false
namespace Go.Proofs.Ytmdlcalnncncjaa
open Go.RowKit
abbrev closA (C : Nat) : Value := .func (.func 97) #[] #[.pointer (some ⟨C, 0, none⟩)]
/-- What anew answers. -/
def NewR (a : Va) (w : World) (e : Ending) (w' : World) : Prop := ∃ h' S, e = .returned (.agg #[.int .i64 h'.k, .int .i64 h'.n, .string h'.s, .slice h'.A h'.la h'.lc, .slice h'.F h'.lf h'.fc]) ∧ Own w' a S h' ∧ (∀ b, S b → w.heap.size ≤ b ∧ b < w'.heap.size) ∧ Below w.heap.size w w'
theorem rowIs_below' {B N : Nat} {w w' : World} {t : TypeId} {n : Nat} {f : Nat → Value} (h : w.rowIs N t n f) (hb : w'.heap[N]? = w.heap[N]?) : w'.rowIs N t n f := by
  obtain ⟨c, h1, h2, h3⟩ := h
  exact ⟨c, by rw [hb]; exact h1, h2, h3⟩
def hdAt (h : Hd) (j : Nat) : Value := h.cells.getD j undef
theorem hdAt_row {w : World} {N : Nat} {h : Hd} (H : w.heap[N]? = some (.cells #[.int .i64 h.k, .int .i64 h.n, .string h.s, .slice h.A h.la h.lc, .slice h.F h.lf h.fc] 25)) : w.rowIs N 25 5 (hdAt h) := by
  refine ⟨_, H, rfl, fun i hi => ?_⟩
  match i, hi with
  | 0, _ => rfl
  | 1, _ => rfl
  | 2, _ => rfl
  | 3, _ => rfl
  | 4, _ => rfl
/-- Behind the first statement: w lies at W. -/
structure AfterR (w : World) (h : Hd) (W : Nat) (wc : World) : Prop where
  bel : Below w.heap.size w wc
  box : Bx wc w.heap.size h
  res : wc.rowIs (w.heap.size + 1) 25 5 (hdAt ⟨0, 0, ByteArray.empty, none, 0, 0, none, 0, 0⟩)
  cur : wc.rowIs W 25 5 (hdAt ⟨h.k, h.n, h.s, none, 0, 0, none, 0, 0⟩)
  lo : w.heap.size + 1 < W
theorem afterA {w w0 w1 : World} {h : Hd} (hB : Below w.heap.size w w0) (box : Bx w0 w.heap.size h) (res : w0.rowIs (w.heap.size + 1) 25 5 (hdAt ⟨0, 0, ByteArray.empty, none, 0, 0, none, 0, 0⟩)) (hb1 : Below w0.drew.heap.size w0.drew w1) :
    AfterR w h w1.heap.size (w1.alloc (Obj.cells #[.int .i64 h.k, .int .i64 h.n, .string h.s, .slice none 0 0, .slice none 0 0] 25)) := by
  have hb : Below w0.heap.size w0 w1 := ((Below.refl _ _).drew).trans hb1
  have hb2 : Below w0.heap.size w0 (w1.alloc (Obj.cells #[.int .i64 h.k, .int .i64 h.n, .string h.s, .slice none 0 0, .slice none 0 0] 25)) := hb.alloc hb.size _
  have h1 := box.1
  have h2 := res.lt
  refine ⟨hB.trans (hb2.mono (by omega)), box.go hb2 h1, rowIs_below res hb2 h2, hdAt_row (heap_alloc_new w1 _), by have := hb.size; omega⟩
theorem afterB {w w0 w1 : World} {h : Hd} (hB : Below w.heap.size w w0) (box : Bx w0 w.heap.size h) (res : w0.rowIs (w.heap.size + 1) 25 5 (hdAt ⟨0, 0, ByteArray.empty, none, 0, 0, none, 0, 0⟩)) {cs : Array Value} (hcs : cs.size = 5)
    (hb1 : Below (w0.alloc (Obj.cells cs 25)).drew.heap.size (w0.alloc (Obj.cells cs 25)).drew w1) :
    AfterR w h w0.heap.size (((((w1.setCell ⟨w0.heap.size, 0, none⟩ (.int .i64 h.k)).setCell ⟨w0.heap.size, 1, none⟩ (.int .i64 h.n)).setCell ⟨w0.heap.size, 2, none⟩ (.string h.s)).setCell ⟨w0.heap.size, 3, none⟩ (.slice none 0 0)).setCell ⟨w0.heap.size, 4, none⟩ (.slice none 0 0)) := by
  have hb1' : Below (w0.alloc (Obj.cells cs 25)).heap.size (w0.alloc (Obj.cells cs 25)) w1 := ((Below.refl _ _).drew).trans hb1
  have hb : Below w0.heap.size w0 w1 := (after_alloc hb1').1
  have hs : Below w0.heap.size w0 (((((w1.setCell ⟨w0.heap.size, 0, none⟩ (.int .i64 h.k)).setCell ⟨w0.heap.size, 1, none⟩ (.int .i64 h.n)).setCell ⟨w0.heap.size, 2, none⟩ (.string h.s)).setCell ⟨w0.heap.size, 3, none⟩ (.slice none 0 0)).setCell ⟨w0.heap.size, 4, none⟩ (.slice none 0 0)) :=
    ((((hb.setCell (Nat.le_refl _) _).setCell (Nat.le_refl _) _).setCell (Nat.le_refl _) _).setCell (Nat.le_refl _) _).setCell (Nat.le_refl _) _
  have h1 := box.1
  have h2 := res.lt
  have hr : w1.rowIs w0.heap.size 25 5 (fun i => cs.getD i undef) := by
    refine ⟨cs, ?_, hcs, fun i hi => ?_⟩
    · exact (hb1'.block w0.heap.size (by simp)).trans (heap_alloc_new w0 _)
    · have : i < cs.size := by omega
      simp [Array.getD, this]
  refine ⟨hB.trans (hs.mono (by omega)), box.go hs h1, rowIs_below res hs h2, (((((hr.set 0 _).set 1 _).set 2 _).set 3 _).set 4 _).congr (fun i hi => ?_), by omega⟩
  match i, hi with
  | 0, _ => rfl
  | 1, _ => rfl
  | 2, _ => rfl
  | 3, _ => rfl
  | 4, _ => rfl

/-- What the drawn statement of a list's element loads. -/
def SX (C X : Nat) (u : Hd) (w : World) : Prop := w.cell? ⟨C, 0, none⟩ = some (closA C) ∧ w.cell? ⟨X, 0, none⟩ = some (.int .i64 u.k) ∧ w.cell? ⟨X, 1, none⟩ = some (.int .i64 u.n) ∧ w.cell? ⟨X, 2, none⟩ = some (.string u.s) ∧
  w.cell? ⟨X, 3, none⟩ = some (.slice u.A u.la u.lc) ∧ w.cell? ⟨X, 4, none⟩ = some (.slice u.F u.lf u.fc)
theorem SX.imp {C X : Nat} {u : Hd} {w w' : World} (h : SX C X u w) (hC : w'.heap[C]? = w.heap[C]?) (hX : w'.heap[X]? = w.heap[X]?) : SX C X u w' :=
  ⟨(World.cell?_of_block (a := ⟨C, 0, none⟩) hC).trans h.1, (World.cell?_of_block (a := ⟨X, 0, none⟩) hX).trans h.2.1, (World.cell?_of_block (a := ⟨X, 1, none⟩) hX).trans h.2.2.1, (World.cell?_of_block (a := ⟨X, 2, none⟩) hX).trans h.2.2.2.1, (World.cell?_of_block (a := ⟨X, 3, none⟩) hX).trans h.2.2.2.2.1, (World.cell?_of_block (a := ⟨X, 4, none⟩) hX).trans h.2.2.2.2.2⟩
theorem SX.ltC {C X : Nat} {u : Hd} {w : World} (h : SX C X u w) : C < w.heap.size := World.block_lt_of_cell? w _ h.1
theorem SX.ltX {C X : Nat} {u : Hd} {w : World} (h : SX C X u w) : X < w.heap.size := World.block_lt_of_cell? w _ h.2.1
theorem SX.call {C X : Nat} {u : Hd} {w w2 : World} (h : SX C X u w) (hb : Below w.drew.heap.size w.drew w2) : SX C X u w2 := h.imp (hb.block _ h.ltC) (hb.block _ h.ltX)
theorem SX.alloc {C X : Nat} {u : Hd} {w : World} (h : SX C X u w) (o : Obj) : SX C X u (w.alloc o) := h.imp (Below.heap_alloc _ _ _ h.ltC) (Below.heap_alloc _ _ _ h.ltX)
theorem SX.grown {C X : Nat} {u : Hd} {w w' : World} {row : Option Nat} (h : SX C X u w) (hg : w.grownBy w' row) (h1 : some C ≠ row) (h2 : some X ≠ row) : SX C X u w' := h.imp (hg.block _ h.ltC h1) (hg.block _ h.ltX h2)
theorem SX.set {C X W o : Nat} {u : Hd} {w : World} (h : SX C X u w) (h1 : C ≠ W) (h2 : X ≠ W) (v : Value) : SX C X u (w.setCell ⟨W, o, none⟩ v) := h.imp (Below.heap_setCell _ _ _ _ h1) (Below.heap_setCell _ _ _ _ h2)
/-- Where w's own cell stands through the statement. -/
theorem cur_call {W o : Nat} {wx w2 : World} {v : Value} (hc : wx.cell? ⟨W, o, none⟩ = some v) (hb : Below wx.drew.heap.size wx.drew w2) : w2.cell? ⟨W, o, none⟩ = some v :=
  (hb.cell (p := ⟨W, o, none⟩) (World.block_lt_of_cell? wx _ hc)).trans hc
theorem cur_frz {W o : Nat} {wx w2 : World} {v : Value} (hc : wx.cell? ⟨W, o, none⟩ = some v) (hf : wx.frozen? ⟨W, o, none⟩ = false) (hb : Below wx.drew.heap.size wx.drew w2) : w2.frozen? ⟨W, o, none⟩ = false :=
  (hb.frozen (p := ⟨W, o, none⟩) (World.block_lt_of_cell? wx _ hc)).trans hf
theorem cur_grown {W o : Nat} {w2 w3 : World} {v : Value} {ob : Obj} {row : Option Nat} (hc : w2.cell? ⟨W, o, none⟩ = some v) (hg : (w2.alloc ob).grownBy w3 row) (hr : some W ≠ row) : w3.cell? ⟨W, o, none⟩ = some v :=
  (hg.cell_far ⟨W, o, none⟩ (by have h9 : W < w2.heap.size := World.block_lt_of_cell? w2 _ hc; simp; omega) hr).trans ((World.cell?_alloc_past _ _ _ (World.block_lt_of_cell? w2 _ hc)).trans hc)
theorem cur_gfrz {W o : Nat} {w2 w3 : World} {v : Value} {ob : Obj} {row : Option Nat} (hc : w2.cell? ⟨W, o, none⟩ = some v) (hf : w2.frozen? ⟨W, o, none⟩ = false) (hg : (w2.alloc ob).grownBy w3 row) (hr : some W ≠ row) : w3.frozen? ⟨W, o, none⟩ = false :=
  (hg.frozen_far ⟨W, o, none⟩ (by have h9 : W < w2.heap.size := World.block_lt_of_cell? w2 _ hc; simp; omega) hr).trans ((World.frozen?_alloc_past _ _ _ (World.block_lt_of_cell? w2 _ hc)).trans hf)
/-- The loop over the elements. -/
structure LoopL (wc : World) (W : Nat) (hk hnn : Int) (hs : ByteArray) (l : List Va) (i : Nat) (wr : World) (us : List Hd) (SL : Nat → Nat → Prop) (A' : Option Addr) (c' : Nat) : Prop where
  hi : i ≤ l.length
  kp : Kp W wc wr
  row : wr.rowIs W 25 5 (hdAt ⟨hk, hnn, hs, A', i, c', none, 0, 0⟩)
  own : wr.ownsRow wc.heap.size 25 5 (.slice A' i c') i (us.flatMap Hd.cells)
  part : Part wr wc.heap.size (.slice A' i c') (l.take i) us SL
theorem LoopL.step {wc wr wx w2 w3 : World} {W i g cap : Nat} {hk hnn : Int} {hs : ByteArray} {l : List Va} {us : List Hd} {SL : Nat → Nat → Prop} {A' : Option Addr} {c' : Nat} {x : Va} {h' : Hd} {T : Nat → Prop} {o : Obj}
    (H : LoopL wc W hk hnn hs l i wr us SL A' c') (hW : W < wc.heap.size) (hx : l[i]? = some x) (hbx : Below wr.heap.size wr wx) (hb2 : Below wx.drew.heap.size wx.drew w2) (ho : Own w2 x T h') (hT : ∀ b, T b → wx.drew.heap.size ≤ b ∧ b < w2.heap.size)
    (hown3 : w3.ownsRow wc.heap.size 25 5 (.slice (some ⟨g, 0, none⟩) (i + 1) cap) (i + 1) (us.flatMap Hd.cells ++ h'.cells)) (hgrow : (w2.alloc o).grownBy w3 (Value.slice A' i c').ownBlock)
    (hat : (Value.slice A' i c').ownBlock = some g ∨ g = w2.heap.size + 1) :
    LoopL wc W hk hnn hs l (i + 1) (w3.setCell ⟨W, 3, none⟩ (.slice (some ⟨g, 0, none⟩) (i + 1) cap)) (us ++ [h']) (fun j b => if j = (l.take i).length then T b else SL j b) (some ⟨g, 0, none⟩) cap := by
  have hb2' : Below wx.heap.size wx w2 := ((Below.refl _ _).drew).trans hb2
  have hT' : ∀ b, T b → wx.heap.size ≤ b ∧ b < w2.heap.size := hT
  have hbr : Below wr.heap.size wr w2 := hbx.trans (hb2'.mono hbx.size)
  have hil : i < l.length := (List.getElem?_eq_some_iff.1 hx).1
  have hkr := H.kp.size
  have hs2 := hbr.size
  have hg3 := hgrow.size
  simp only [World.size_alloc] at hg3
  have hrow : ∀ b, (Value.slice A' i c').ownBlock = some b → wc.heap.size ≤ b ∧ b < wr.heap.size := fun b hb => own_lo H.own hb
  have blk : ∀ b, b < wr.heap.size → (Value.slice A' i c').ownBlock ≠ some b → w3.heap[b]? = wr.heap[b]? := fun b h1 h2 => by
    rw [hgrow.block b (by simp; omega) (fun e => h2 e.symm), Below.heap_alloc _ _ _ (by omega), hbr.block b h1]
  have blkT : ∀ b, T b → w3.heap[b]? = w2.heap[b]? := fun b hb => by
    have h1 := hT' b hb
    rw [hgrow.block b (by simp; omega) (fun e => by have := hrow b e.symm; have := hbx.size; omega), Below.heap_alloc _ _ _ (by omega)]
  have hWr : W < wr.heap.size := by omega
  have hWn : (Value.slice A' i c').ownBlock ≠ some W := fun e => by have := hrow W e; omega
  have hgW : g ≠ W := by
    rcases hat with e | e
    · have := hrow g e; omega
    · omega
  have set_blk : ∀ b, b ≠ W → (w3.setCell ⟨W, 3, none⟩ (.slice (some ⟨g, 0, none⟩) (i + 1) cap)).heap[b]? = w3.heap[b]? := fun b hb => Below.heap_setCell _ _ _ _ hb
  refine ⟨by omega, ?_, ?_, ?_, ?_⟩
  · refine Kp.setN ⟨?_, by omega, fun k h1 h2 => ?_⟩ _
    · exact ((H.kp.bel.trans (hbr.mono (by omega))).alloc (by omega) o).grown hgrow (by simp; omega) (fun k hk => by have := hrow k hk; omega)
    · rw [blk k (by omega) (fun e => by have := hrow k e; omega)]
      exact H.kp.block k h1 h2
  · have h0 : w3.rowIs W 25 5 (hdAt ⟨hk, hnn, hs, A', i, c', none, 0, 0⟩) := rowIs_below' (B := 0) H.row (blk W hWr hWn)
    refine (h0.set 3 _).congr (fun j hj => ?_)
    match j, hj with
    | 0, _ => rfl
    | 1, _ => rfl
    | 2, _ => rfl
    | 3, _ => rfl
    | 4, _ => rfl
  · rw [List.flatMap_append, List.flatMap_singleton]
    refine own_block hown3 fun b hb => set_blk b ?_
    simp only [Value.ownBlock, Option.some.injEq] at hb
    omega
  · rw [take_next hx]
    have hgb : ∀ b, (Value.slice (some ⟨g, 0, none⟩) (i + 1) cap).ownBlock = some b → b = g := fun b hb => by
      simp only [Value.ownBlock, Option.some.injEq] at hb
      exact hb.symm
    refine H.part.step (mid := wx.heap.size) (by have := hbx.size; omega) hbx.size ?_ (by simp; omega) ?_ ?_ ?_ ?_
    · intro b h1 h2 h3
      rw [set_blk b (by omega)]
      exact blk b h2 h3
    · refine Own.keep x T h' ho fun b hb => ?_
      rw [set_blk b (by have := hT' b hb; have := hbx.size; omega)]
      exact blkT b hb
    · intro b hb
      have := hT' b hb
      refine ⟨by omega, ?_⟩
      simp
      omega
    · intro b hb e
      have e1 := hgb b e
      have h1 := hT' b hb
      rcases hat with e2 | e2
      · have := hrow g e2
        have := hbx.size
        omega
      · omega
    · intro b h1 h2 e
      have e1 := hgb b e
      rcases hat with e2 | e2
      · rw [e1]; exact e2
      · omega

/-- What the drawn statement of a pair loads. -/
def SP (C X : Nat) (key : ByteArray) (u : Hd) (w : World) : Prop := w.cell? ⟨C, 0, none⟩ = some (closA C) ∧ w.cell? ⟨X, 0, none⟩ = some (.string key) ∧ w.cell? ⟨X, 1, none⟩ = some (.int .i64 u.k) ∧ w.cell? ⟨X, 2, none⟩ = some (.int .i64 u.n) ∧ w.cell? ⟨X, 3, none⟩ = some (.string u.s) ∧
  w.cell? ⟨X, 4, none⟩ = some (.slice u.A u.la u.lc) ∧ w.cell? ⟨X, 5, none⟩ = some (.slice u.F u.lf u.fc)
theorem SP.imp {C X : Nat} {key : ByteArray} {u : Hd} {w w' : World} (h : SP C X key u w) (hC : w'.heap[C]? = w.heap[C]?) (hX : w'.heap[X]? = w.heap[X]?) : SP C X key u w' :=
  ⟨(World.cell?_of_block (a := ⟨C, 0, none⟩) hC).trans h.1, (World.cell?_of_block (a := ⟨X, 0, none⟩) hX).trans h.2.1, (World.cell?_of_block (a := ⟨X, 1, none⟩) hX).trans h.2.2.1, (World.cell?_of_block (a := ⟨X, 2, none⟩) hX).trans h.2.2.2.1, (World.cell?_of_block (a := ⟨X, 3, none⟩) hX).trans h.2.2.2.2.1, (World.cell?_of_block (a := ⟨X, 4, none⟩) hX).trans h.2.2.2.2.2.1, (World.cell?_of_block (a := ⟨X, 5, none⟩) hX).trans h.2.2.2.2.2.2⟩
theorem SP.ltC {C X : Nat} {key : ByteArray} {u : Hd} {w : World} (h : SP C X key u w) : C < w.heap.size := World.block_lt_of_cell? w _ h.1
theorem SP.ltX {C X : Nat} {key : ByteArray} {u : Hd} {w : World} (h : SP C X key u w) : X < w.heap.size := World.block_lt_of_cell? w _ h.2.1
theorem SP.call {C X : Nat} {key : ByteArray} {u : Hd} {w w2 : World} (h : SP C X key u w) (hb : Below w.heap.size w w2) : SP C X key u w2 := h.imp (hb.block _ h.ltC) (hb.block _ h.ltX)
theorem SP.alloc {C X : Nat} {key : ByteArray} {u : Hd} {w : World} (h : SP C X key u w) (o : Obj) : SP C X key u (w.alloc o) := h.imp (Below.heap_alloc _ _ _ h.ltC) (Below.heap_alloc _ _ _ h.ltX)
theorem SP.grown {C X : Nat} {key : ByteArray} {u : Hd} {w w' : World} {row : Option Nat} (h : SP C X key u w) (hg : w.grownBy w' row) (h1 : some C ≠ row) (h2 : some X ≠ row) : SP C X key u w' := h.imp (hg.block _ h.ltC h1) (hg.block _ h.ltX h2)
theorem SP.set {C X W o : Nat} {key : ByteArray} {u : Hd} {w : World} (h : SP C X key u w) (h1 : C ≠ W) (h2 : X ≠ W) (v : Value) : SP C X key u (w.setCell ⟨W, o, none⟩ v) := h.imp (Below.heap_setCell _ _ _ _ h1) (Below.heap_setCell _ _ _ _ h2)
theorem SP.start (wr : World) (key : ByteArray) (u : Hd) (C : Nat) (hc : wr.cell? ⟨C, 0, none⟩ = some (closA C)) : SP C wr.heap.size key u (wr.alloc (Obj.cells #[.string key, .int .i64 u.k, .int .i64 u.n, .string u.s, .slice u.A u.la u.lc, .slice u.F u.lf u.fc] 36)) :=
  ⟨(World.cell?_alloc_past _ _ _ (World.block_lt_of_cell? wr _ hc)).trans hc, World.cell?_alloc_new wr _ _ 0, World.cell?_alloc_new wr _ _ 1, World.cell?_alloc_new wr _ _ 2, World.cell?_alloc_new wr _ _ 3, World.cell?_alloc_new wr _ _ 4, World.cell?_alloc_new wr _ _ 5⟩
theorem cur_bel {W o : Nat} {wx w2 : World} {v : Value} (hc : wx.cell? ⟨W, o, none⟩ = some v) (hb : Below wx.heap.size wx w2) : w2.cell? ⟨W, o, none⟩ = some v :=
  (hb.cell (p := ⟨W, o, none⟩) (World.block_lt_of_cell? wx _ hc)).trans hc
theorem cur_bfrz {W o : Nat} {wx w2 : World} {v : Value} (hc : wx.cell? ⟨W, o, none⟩ = some v) (hf : wx.frozen? ⟨W, o, none⟩ = false) (hb : Below wx.heap.size wx w2) : w2.frozen? ⟨W, o, none⟩ = false :=
  (hb.frozen (p := ⟨W, o, none⟩) (World.block_lt_of_cell? wx _ hc)).trans hf
/-- The loop over the pairs. -/
structure LoopF (wd : World) (W : Nat) (hw : Hd) (ks : List ByteArray) (f : List Va) (i : Nat) (wr : World) (vs : List Hd) (SF : Nat → Nat → Prop) (F' : Option Addr) (c' : Nat) : Prop where
  hi : i ≤ f.length
  kp : Kp W wd wr
  row : wr.rowIs W 25 5 (hdAt ⟨hw.k, hw.n, hw.s, hw.A, hw.la, hw.lc, F', i, c'⟩)
  own : wr.ownsRow wd.heap.size 36 6 (.slice F' i c') i (((ks.take i).zip vs).flatMap pcells)
  part : Part wr wd.heap.size (.slice F' i c') (f.take i) vs SF
theorem LoopF.step {wd wr wx w1 w2 w3 : World} {W i g cap : Nat} {hw : Hd} {ks : List ByteArray} {f : List Va} {vs : List Hd} {SF : Nat → Nat → Prop} {F' : Option Addr} {c' : Nat} {x : Va} {key : ByteArray} {h' : Hd} {T : Nat → Prop} {o : Obj}
    (H : LoopF wd W hw ks f i wr vs SF F' c') (hW : W < wd.heap.size) (hx : f[i]? = some x) (hkey : ks[i]? = some key) (hkl : ks.length = f.length) (hbx : Below wr.heap.size wr wx) (hb1 : Below wx.drew.heap.size wx.drew w1) (hb2 : Below w1.heap.size w1 w2) (ho : Own w2 x T h') (hT : ∀ b, T b → w1.heap.size ≤ b ∧ b < w2.heap.size)
    (hown3 : w3.ownsRow wd.heap.size 36 6 (.slice (some ⟨g, 0, none⟩) (i + 1) cap) (i + 1) (((ks.take i).zip vs).flatMap pcells ++ pcells (key, h'))) (hgrow : (w2.alloc o).grownBy w3 (Value.slice F' i c').ownBlock)
    (hat : (Value.slice F' i c').ownBlock = some g ∨ g = w2.heap.size + 1) :
    LoopF wd W hw ks f (i + 1) (w3.setCell ⟨W, 4, none⟩ (.slice (some ⟨g, 0, none⟩) (i + 1) cap)) (vs ++ [h']) (fun j b => if j = (f.take i).length then T b else SF j b) (some ⟨g, 0, none⟩) cap := by
  have hb1' : Below wx.heap.size wx w1 := ((Below.refl _ _).drew).trans hb1
  have hs1 := hb1'.size
  have hbr : Below wr.heap.size wr w2 := (hbx.trans (hb1'.mono hbx.size)).trans (hb2.mono (Nat.le_trans hbx.size hs1))
  have hil : i < f.length := (List.getElem?_eq_some_iff.1 hx).1
  have hkr := H.kp.size
  have hs2 := hbr.size
  have hs22 := hb2.size
  have hsx := hbx.size
  have hg3 := hgrow.size
  simp only [World.size_alloc] at hg3
  have hrow : ∀ b, (Value.slice F' i c').ownBlock = some b → wd.heap.size ≤ b ∧ b < wr.heap.size := fun b hb => own_lo H.own hb
  have blk : ∀ b, b < wr.heap.size → (Value.slice F' i c').ownBlock ≠ some b → w3.heap[b]? = wr.heap[b]? := fun b h1 h2 => by
    rw [hgrow.block b (by simp; omega) (fun e => h2 e.symm), Below.heap_alloc _ _ _ (by omega), hbr.block b h1]
  have blkT : ∀ b, T b → w3.heap[b]? = w2.heap[b]? := fun b hb => by
    have h1 := hT b hb
    rw [hgrow.block b (by simp; omega) (fun e => by have := hrow b e.symm; omega), Below.heap_alloc _ _ _ (by omega)]
  have hWr : W < wr.heap.size := by omega
  have hWn : (Value.slice F' i c').ownBlock ≠ some W := fun e => by have := hrow W e; omega
  have hgW : g ≠ W := by
    rcases hat with e | e
    · have := hrow g e; omega
    · omega
  have set_blk : ∀ b, b ≠ W → (w3.setCell ⟨W, 4, none⟩ (.slice (some ⟨g, 0, none⟩) (i + 1) cap)).heap[b]? = w3.heap[b]? := fun b hb => Below.heap_setCell _ _ _ _ hb
  refine ⟨by omega, ?_, ?_, ?_, ?_⟩
  · refine Kp.setN ⟨?_, by omega, fun k h1 h2 => ?_⟩ _
    · exact ((H.kp.bel.trans (hbr.mono (by omega))).alloc (by omega) o).grown hgrow (by simp; omega) (fun k hk => by have := hrow k hk; omega)
    · rw [blk k (by omega) (fun e => by have := hrow k e; omega)]
      exact H.kp.block k h1 h2
  · have h0 := rowIs_below' (B := 0) H.row (blk W hWr hWn)
    refine (h0.set 4 _).congr (fun j hj => ?_)
    match j, hj with
    | 0, _ => rfl
    | 1, _ => rfl
    | 2, _ => rfl
    | 3, _ => rfl
    | 4, _ => rfl
  · have hvl : vs.length = i := by have := H.part.len; rw [List.length_take] at this; omega
    rw [take_next hkey, List.zip_append (by rw [List.length_take]; omega), List.flatMap_append]
    refine own_block (v := .slice (some ⟨g, 0, none⟩) (i + 1) cap) (w := w3) ?_ fun b hb => set_blk b ?_
    · simpa using hown3
    · simp only [Value.ownBlock, Option.some.injEq] at hb
      omega
  · rw [take_next hx]
    have hgb : ∀ b, (Value.slice (some ⟨g, 0, none⟩) (i + 1) cap).ownBlock = some b → b = g := fun b hb => by
      simp only [Value.ownBlock, Option.some.injEq] at hb
      exact hb.symm
    refine H.part.step (mid := w1.heap.size) (by omega) (by omega) ?_ (by simp; omega) ?_ ?_ ?_ ?_
    · intro b h1 h2 h3
      rw [set_blk b (by omega)]
      exact blk b h2 h3
    · refine Own.keep x T h' ho fun b hb => ?_
      rw [set_blk b (by have := hT b hb; omega)]
      exact blkT b hb
    · intro b hb
      have := hT b hb
      refine ⟨by omega, ?_⟩
      simp
      omega
    · intro b hb e
      have e1 := hgb b e
      have h1 := hT b hb
      rcases hat with e2 | e2
      · have := hrow g e2
        omega
      · omega
    · intro b h1 h2 e
      have e1 := hgb b e
      rcases hat with e2 | e2
      · rw [e1]; exact e2
      · omega
/-- All is made: the value is one's own. -/
theorem Loops.done {wc wd wr : World} {W : Nat} {hk hnn : Int} {hs : ByteArray} {l : List Va} {ks : List ByteArray} {f : List Va} {us vs : List Hd} {SL SF : Nat → Nat → Prop} {A' F' : Option Addr} {cl cf : Nat}
    (HL : LoopL wc W hk hnn hs l l.length wd us SL A' cl) (HF : LoopF wd W ⟨hk, hnn, hs, A', l.length, cl, none, 0, 0⟩ ks f f.length wr vs SF F' cf) (hW : W < wc.heap.size) (hkl : ks.length = f.length)
    (hb1 : -9223372036854775808 ≤ hk ∧ hk ≤ 9223372036854775807) (hb2 : -9223372036854775808 ≤ hnn ∧ hnn ≤ 9223372036854775807) (hb3 : hs.size ≤ maxLen) (hb4 : ∀ x ∈ ks, x.size ≤ maxLen) (hb5 : l.length ≤ maxLen) (hb6 : f.length ≤ maxLen) :
    Own wr (.mk hk hnn hs l ks f) (fun b => wc.heap.size ≤ b ∧ b < wr.heap.size) ⟨hk, hnn, hs, A', l.length, cl, F', f.length, cf⟩ := by
  have hkr := HL.kp.size
  have hkd := HF.kp.size
  have pL := HL.part
  have pF := HF.part
  rw [List.take_length] at pL pF
  have oF := HF.own
  rw [List.take_of_length_le (by omega)] at oF
  have capL : l.length ≤ cl := by
    rcases HL.own.2 with ⟨e, h0⟩ | ⟨g, cap, cur, hv, _, _, hle, _⟩
    · omega
    · injection hv with _ _ h3; omega
  have capF : f.length ≤ cf := by
    rcases HF.own.2 with ⟨e, h0⟩ | ⟨g, cap, cur, hv, _, _, hle, _⟩
    · omega
    · injection hv with _ _ h3; omega
  have keepL : ∀ b, wc.heap.size ≤ b → b < wd.heap.size → wr.heap[b]? = wd.heap[b]? := fun b h1 h2 => HF.kp.block b (by omega) h2
  refine Own.mk us vs SL SF ⟨⟨rfl, rfl, rfl, rfl, rfl, hkl⟩, hb1, hb2, hb3, hb4, hb5, hb6, capL, capF⟩ pL.len pF.len ?_ ?_ ?_ ?_ ?_ ?_ ?_ ?_ pL.dis pF.dis ?_
  · exact own_base (own_block HL.own fun g hg => keepL g (own_lo HL.own hg).1 (own_lo HL.own hg).2) (Nat.zero_le _)
  · exact own_base oF (Nat.zero_le _)
  · intro i x u hx hu
    exact Own.keep x _ u (pL.own i x u hx hu) fun b hb => keepL b (pL.rng i b hb).1 (pL.rng i b hb).2
  · exact pF.own
  · intro g hg
    have h1 := own_lo HL.own hg
    exact ⟨⟨h1.1, by omega⟩, fun i hi => pL.off i g hi hg, fun i hi => by have := pF.rng i g hi; omega⟩
  · intro g hg
    have h1 := own_lo HF.own hg
    exact ⟨⟨by omega, h1.2⟩, fun i hi => by have := pL.rng i g hi; omega, fun i hi => pF.off i g hi hg, fun e => by have := own_lo HL.own e; omega⟩
  · intro i b hb
    have := pL.rng i b hb
    exact ⟨this.1, by omega⟩
  · intro i b hb
    have := pF.rng i b hb
    exact ⟨by omega, this.2⟩
  · intro i j b h1 h2
    have := pL.rng i b h1
    have := pF.rng j b h2
    omega
end Go.Proofs.Ytmdlcalnncncjaa
