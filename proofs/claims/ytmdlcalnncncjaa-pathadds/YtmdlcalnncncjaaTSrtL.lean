/- What the reference's Sorted leaves, step by step: the elements. -/
import Derived.Test.YtmdlcalnncncjaaTSrtA
import Derived.Test.YtmdlcalnncncjaaTNewL
set_option linter.unusedVariables false
set_option linter.unusedSimpArgs false
namespace Go.Proofs.Ytmdlcalnncncjaa
open Go.RowKit
/-- What Sorted answers: the value lies above the old heap. -/
def SrtR (a : Va) (w : World) (e : Ending) (w' : World) : Prop := ∃ h', e = .returned (.agg #[.int .i64 h'.k, .int .i64 h'.n, .string h'.s, .slice h'.A h'.la h'.lc, .slice h'.F h'.lf h'.fc]) ∧ Lies w' (fun b => w.heap.size ≤ b) a.srt h' ∧ Below w.heap.size w w'
/-- A row that is being made: its elements lie off it. -/
structure LieP (w : World) (lo : Nat) (v : Value) (l : List Va) (us : List Hd) : Prop where
  len : us.length = l.length
  lie : ∀ (i : Nat) x u, l[i]? = some x → us[i]? = some u → Lies w (fun b => lo ≤ b ∧ v.ownBlock ≠ some b) x u
theorem LieP.start (w : World) (lo : Nat) (v : Value) : LieP w lo v [] [] := ⟨rfl, fun i x u h => by simp at h⟩
theorem LieP.step {w w' : World} {lo : Nat} {v v' : Value} {l : List Va} {us : List Hd} {x : Va} {u : Hd} (h : LieP w lo v l us)
    (hk : ∀ b, lo ≤ b → b < w.heap.size → v.ownBlock ≠ some b → w'.heap[b]? = w.heap[b]?) (hx : Lies w' (fun b => lo ≤ b ∧ v'.ownBlock ≠ some b) x u)
    (hv : ∀ b, lo ≤ b → b < w.heap.size → v'.ownBlock = some b → v.ownBlock = some b) : LieP w' lo v' (l ++ [x]) (us ++ [u]) := by
  refine ⟨by simp [h.len], fun i y z hy hz => ?_⟩
  by_cases hi : i < l.length
  · rw [List.getElem?_append_left hi] at hy
    rw [List.getElem?_append_left (by rw [h.len]; exact hi)] at hz
    exact Lies.keep (fun p hp hl => World.cell?_of_block (hk _ hp.1 hl hp.2)) (fun b hb hl => ⟨hb.1, fun e => hb.2 (hv b hb.1 hl e)⟩) _ _ (h.lie i y z hy hz)
  · rw [List.getElem?_append_right (by omega)] at hy
    rw [List.getElem?_append_right (by rw [h.len]; omega)] at hz
    rw [h.len] at hz
    obtain ⟨rfl, e⟩ : x = y ∧ i - l.length = 0 := by
      rcases hj : i - l.length with _ | j
      · rw [hj] at hy; simpa using hy
      · rw [hj] at hy; simp at hy
    rw [e] at hz
    simp at hz
    subst hz
    exact hx
/-- The loop over the elements. -/
structure LoopA (wc : World) (W : Nat) (hk hnn : Int) (hs : ByteArray) (l : List Va) (i : Nat) (wr : World) (us : List Hd) (A' : Option Addr) (c' : Nat) : Prop where
  hi : i ≤ l.length
  kp : Kp W wc wr
  row : wr.rowIs W 25 5 (hdAt ⟨hk, hnn, hs, A', i, c', none, 0, 0⟩)
  own : wr.ownsRow wc.heap.size 25 5 (.slice A' i c') i (us.flatMap Hd.cells)
  part : LieP wr wc.heap.size (.slice A' i c') (l.take i) us
theorem LoopA.step {wc wr wx w2 w3 : World} {W i g cap : Nat} {hk hnn : Int} {hs : ByteArray} {l : List Va} {us : List Hd} {A' : Option Addr} {c' : Nat} {x : Va} {h' : Hd} {o : Obj}
    (H : LoopA wc W hk hnn hs l i wr us A' c') (hW : W < wc.heap.size) (hx : l[i]? = some x) (hbx : Below wr.heap.size wr wx) (hb2 : Below wx.drew.heap.size wx.drew w2) (ho : Lies w2 (fun b => wx.drew.heap.size ≤ b) x h')
    (hown3 : w3.ownsRow wc.heap.size 25 5 (.slice (some ⟨g, 0, none⟩) (i + 1) cap) (i + 1) (us.flatMap Hd.cells ++ h'.cells)) (hgrow : (w2.alloc o).grownBy w3 (Value.slice A' i c').ownBlock)
    (hat : (Value.slice A' i c').ownBlock = some g ∨ g = w2.heap.size + 1) :
    LoopA wc W hk hnn hs l (i + 1) (w3.setCell ⟨W, 3, none⟩ (.slice (some ⟨g, 0, none⟩) (i + 1) cap)) (us ++ [h']) (some ⟨g, 0, none⟩) cap := by
  have hb2' : Below wx.heap.size wx w2 := ((Below.refl _ _).drew).trans hb2
  have hbr : Below wr.heap.size wr w2 := hbx.trans (hb2'.mono hbx.size)
  have hil : i < l.length := (List.getElem?_eq_some_iff.1 hx).1
  have hkr := H.kp.size
  have hs2 := hbr.size
  have hsx := hbx.size
  have hs2x := hb2'.size
  have hg3 := hgrow.size
  simp only [World.size_alloc] at hg3
  have hrow : ∀ b, (Value.slice A' i c').ownBlock = some b → wc.heap.size ≤ b ∧ b < wr.heap.size := fun b hb => own_lo H.own hb
  have blk : ∀ b, b < wr.heap.size → (Value.slice A' i c').ownBlock ≠ some b → w3.heap[b]? = wr.heap[b]? := fun b h1 h2 => by
    rw [hgrow.block b (by simp; omega) (fun e => h2 e.symm), Below.heap_alloc _ _ _ (by omega), hbr.block b h1]
  have blkT : ∀ b, wx.heap.size ≤ b → b < w2.heap.size → w3.heap[b]? = w2.heap[b]? := fun b h1 h2 => by
    rw [hgrow.block b (by simp; omega) (fun e => by have := hrow b e.symm; omega), Below.heap_alloc _ _ _ (by omega)]
  have hWr : W < wr.heap.size := by omega
  have hWn : (Value.slice A' i c').ownBlock ≠ some W := fun e => by have := hrow W e; omega
  have hgW : g ≠ W := by
    rcases hat with e | e
    · have := hrow g e; omega
    · omega
  have set_blk : ∀ b, b ≠ W → (w3.setCell ⟨W, 3, none⟩ (.slice (some ⟨g, 0, none⟩) (i + 1) cap)).heap[b]? = w3.heap[b]? := fun b hb => Below.heap_setCell _ _ _ _ hb
  refine ⟨by omega, ?_, ?_, ?_, ?_⟩
  · refine Kp.setN ⟨?_, by omega, fun k h1 h2 => ?_⟩ _
    · exact ((H.kp.bel.trans (hbr.mono (by omega))).alloc (by omega) o).grown hgrow (by simp; omega) (fun k hk => by have := hrow k hk; omega)
    · rw [blk k (by omega) (fun e => by have := hrow k e; omega)]
      exact H.kp.block k h1 h2
  · have h0 : w3.rowIs W 25 5 (hdAt ⟨hk, hnn, hs, A', i, c', none, 0, 0⟩) := rowIs_below' (B := 0) H.row (blk W hWr hWn)
    refine (h0.set 3 _).congr (fun j hj => ?_)
    match j, hj with
    | 0, _ => rfl
    | 1, _ => rfl
    | 2, _ => rfl
    | 3, _ => rfl
    | 4, _ => rfl
  · rw [List.flatMap_append, List.flatMap_singleton]
    refine own_block hown3 fun b hb => set_blk b ?_
    simp only [Value.ownBlock, Option.some.injEq] at hb
    omega
  · rw [take_next hx]
    have hgb : ∀ b, (Value.slice (some ⟨g, 0, none⟩) (i + 1) cap).ownBlock = some b → b = g := fun b hb => by
      simp only [Value.ownBlock, Option.some.injEq] at hb
      exact hb.symm
    refine H.part.step ?_ ?_ ?_
    · intro b h1 h2 h3
      rw [set_blk b (by omega)]
      exact blk b h2 h3
    · refine Lies.keep (fun p (hp : wx.heap.size ≤ p.block) hl => World.cell?_of_block ?_) (fun b (hb : wx.heap.size ≤ b) hl => ⟨by omega, fun e => ?_⟩) x h' ho
      · rw [set_blk _ (by omega)]
        exact blkT _ hp hl
      · have e1 := hgb b e
        rcases hat with e2 | e2
        · have := hrow g e2
          omega
        · omega
    · intro b h1 h2 e
      have e1 := hgb b e
      rcases hat with e2 | e2
      · rw [e1]; exact e2
      · omega
end Go.Proofs.Ytmdlcalnncncjaa
