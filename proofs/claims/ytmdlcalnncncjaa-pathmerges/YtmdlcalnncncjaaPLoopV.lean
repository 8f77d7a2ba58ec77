/- A list's row that is being made in a value's block; a path's value. -/
import Derived.Test.YtmdlcalnncncjaaPRt
import Derived.Test.YtmdlcalnncncjaaTWithRef
set_option linter.unusedVariables false
set_option linter.unusedSimpArgs false
namespace Go.Proofs.Ytmdlcalnncncjaa
open Go.RowKit
/-- The loop that puts one value behind the other into the list of the value in block O. -/
structure LoopV (wd : World) (O : Nat) (k0 : Int) (l : List Va) (S : Nat → Prop) (i : Nat) (wr : World) (us : List Hd) (A' : Option Addr) (c' : Nat) : Prop where
  kp : Kp O wd wr
  row : wr.rowIs O 25 5 (hdAt ⟨k0, 0, ByteArray.empty, A', i, c', none, 0, 0⟩)
  own : wr.ownsRow wd.heap.size 25 5 (.slice A' i c') i (us.flatMap Hd.cells)
  len : us.length = i
  lies : ∀ (j : Nat) y u, l[j]? = some y → us[j]? = some u → Lies wd S y u
theorem LoopV.step {wd wr wq w3 : World} {O i g cap : Nat} {k0 : Int} {l : List Va} {S : Nat → Prop} {us : List Hd} {A' : Option Addr} {c' : Nat} {y : Va} {u : Hd}
    (H : LoopV wd O k0 l S i wr us A' c') (hO : O < wd.heap.size) (hy : l[i]? = some y) (hLu : Lies wd S y u) (hbq : Below wr.heap.size wr wq)
    (hown3 : w3.ownsRow wd.heap.size 25 5 (.slice (some ⟨g, 0, none⟩) (i + 1) cap) (i + 1) (us.flatMap Hd.cells ++ u.cells)) (hgrow : wq.grownBy w3 (Value.slice A' i c').ownBlock)
    (hat : (Value.slice A' i c').ownBlock = some g ∨ g = wq.heap.size) :
    LoopV wd O k0 l S (i + 1) (w3.setCell ⟨O, 3, none⟩ (.slice (some ⟨g, 0, none⟩) (i + 1) cap)) (us ++ [u]) (some ⟨g, 0, none⟩) cap := by
  have hkr := H.kp.size
  have hq := hbq.size
  have hg3 := hgrow.size
  have hrow : ∀ b, (Value.slice A' i c').ownBlock = some b → wd.heap.size ≤ b ∧ b < wr.heap.size := fun b hb => own_lo H.own hb
  have blk : ∀ b, b < wr.heap.size → (Value.slice A' i c').ownBlock ≠ some b → w3.heap[b]? = wr.heap[b]? := fun b h1 h2 => by
    rw [hgrow.block b (by omega) (fun e => h2 e.symm), hbq.block b h1]
  have hOn : (Value.slice A' i c').ownBlock ≠ some O := fun e => by have := hrow O e; omega
  have hgO : g ≠ O := by
    rcases hat with e | e
    · have := hrow g e; omega
    · omega
  refine ⟨?_, ?_, ?_, ?_, ?_⟩
  · refine Kp.setN ⟨?_, by omega, fun k h1 h2 => ?_⟩ _
    · exact (H.kp.bel.trans (hbq.mono (by omega))).grown hgrow (by omega) (fun k hk => by have := hrow k hk; omega)
    · rw [blk k (by omega) (fun e => by have := hrow k e; omega)]
      exact H.kp.block k h1 h2
  · have h0 := rowIs_below' (B := 0) H.row (blk O (by omega) hOn)
    refine (h0.set 3 _).congr (fun j hj => ?_)
    match j, hj with
    | 0, _ => rfl
    | 1, _ => rfl
    | 2, _ => rfl
    | 3, _ => rfl
    | 4, _ => rfl
  · rw [List.flatMap_append]
    refine own_block (v := .slice (some ⟨g, 0, none⟩) (i + 1) cap) (w := w3) ?_ fun b hb => Below.heap_setCell _ _ _ _ ?_
    · simpa using hown3
    · simp only [Value.ownBlock, Option.some.injEq] at hb
      show b ≠ O
      omega
  · simp [H.len]
  · intro j y' u' hy' hu'
    by_cases e : j < i
    · rw [List.getElem?_append_left (by rw [H.len]; exact e)] at hu'
      exact H.lies j y' u' hy' hu'
    · have hj : j < (us ++ [u]).length := (List.getElem?_eq_some_iff.1 hu').1
      simp [H.len] at hj
      obtain rfl : j = i := by omega
      rw [List.getElem?_append_right (by rw [H.len]; exact Nat.le_refl _), H.len] at hu'
      simp at hu'
      subst hu'
      rw [hy] at hy'
      cases hy'
      exact hLu
theorem LoopV.done {wd wr wf : World} {O n : Nat} {k0 : Int} {l : List Va} {S : Nat → Prop} {us : List Hd} {A' : Option Addr} {c' : Nat} (H : LoopV wd O k0 l S n wr us A' c') (hn : n = l.length) (hlm : l.length ≤ maxLen) (hk0 : -9223372036854775808 ≤ k0 ∧ k0 ≤ 9223372036854775807)
    (hSO : ∀ b, S b → b ≠ O) (hblk : ∀ b, b < wr.heap.size → (S b ∨ wd.heap.size ≤ b) → wf.heap[b]? = wr.heap[b]?) : Lies wf (fun _ => True) (.mk k0 0 ByteArray.empty l [] []) ⟨k0, 0, ByteArray.empty, A', n, c', none, 0, 0⟩ := by
  subst hn
  have own := H.own
  have cap : l.length ≤ c' := by
    rcases own.2 with ⟨e, h0⟩ | ⟨g, cap, cur, hv, _, _, hle, _⟩
    · omega
    · injection hv with _ _ h3; omega
  unfold Lies
  refine ⟨⟨rfl, rfl, rfl, rfl, rfl, rfl⟩, ⟨hk0, by decide, by decide, by simp, hlm, by decide, cap, Nat.le_refl _⟩, ⟨us, ?_, LiesL_mk H.len fun i y u hy hu => ?_⟩, ⟨[], fun h => by simp at h, by unfold LiesL; rfl⟩⟩
  · have own2 : wf.ownsRow wd.heap.size 25 5 (.slice A' l.length c') l.length (us.flatMap Hd.cells) := own_block own fun g hg => hblk g (own_lo own hg).2 (.inr (own_lo own hg).1)
    exact row_of_own Hd.cells us cells_len own2 (fun _ _ => trivial) (.inr (by decide))
  · have h1 := H.lies i y u hy hu
    have h2 : Lies wr S y u := h1.kp H.kp hSO
    exact Lies.keep (fun p hp hlt => World.cell?_of_block (hblk p.block hlt (.inl hp))) (fun _ _ _ => trivial) y u h2
/-- A step as a value. -/
def stVa (s : St) : Va := match s.i with | true => .mk 2 s.a ByteArray.empty [] [] [] | false => .mk 3 0 s.k [] [] []
def stHd (s : St) : Hd := match s.i with | true => ⟨2, s.a, ByteArray.empty, none, 0, 0, none, 0, 0⟩ | false => ⟨3, 0, s.k, none, 0, 0, none, 0, 0⟩
def pathVa (p : List St) : Va := .mk 4 0 ByteArray.empty (p.map stVa) [] []
theorem lies_bare (w : World) (S : Nat → Prop) (k n : Int) (s : ByteArray) (hk : -9223372036854775808 ≤ k ∧ k ≤ 9223372036854775807) (hn : -9223372036854775808 ≤ n ∧ n ≤ 9223372036854775807) (hs : s.size ≤ maxLen) : Lies w S (.mk k n s [] [] []) ⟨k, n, s, none, 0, 0, none, 0, 0⟩ := by
  unfold Lies
  refine ⟨⟨rfl, rfl, rfl, rfl, rfl, rfl⟩, ⟨hk, hn, hs, by simp, by decide, by decide, Nat.le_refl 0, Nat.le_refl 0⟩, ⟨[], fun h => by simp at h, ?_⟩, ⟨[], fun h => by simp at h, ?_⟩⟩
  · unfold LiesL; rfl
  · unfold LiesL; rfl
theorem lies_st (w : World) (S : Nat → Prop) (s : St) (hok : s.ok) : Lies w S (stVa s) (stHd s) := by
  obtain ⟨sk, sa, si⟩ := s
  obtain ⟨h1, h2⟩ := hok
  cases si
  · exact lies_bare w S 3 0 sk (by decide) (by decide) h1
  · exact lies_bare w S 2 sa ByteArray.empty (by decide) h2 (by decide)
/-- The loop that makes a path's value. -/
abbrev LoopP (wd : World) (O : Nat) (p : List St) (i : Nat) (wr : World) (A' : Option Addr) (c' : Nat) : Prop := LoopV wd O 4 (p.map stVa) (fun _ => False) i wr ((p.take i).map stHd) A' c'
theorem LoopP.next {wd wr wq w3 : World} {O i g cap : Nat} {p : List St} {A' : Option Addr} {c' : Nat} {s : St} (H : LoopP wd O p i wr A' c') (hO : O < wd.heap.size) (hs : p[i]? = some s) (hok : s.ok) (hbq : Below wr.heap.size wr wq)
    (hown3 : w3.ownsRow wd.heap.size 25 5 (.slice (some ⟨g, 0, none⟩) (i + 1) cap) (i + 1) (((p.take i).map stHd).flatMap Hd.cells ++ (stHd s).cells)) (hgrow : wq.grownBy w3 (Value.slice A' i c').ownBlock)
    (hat : (Value.slice A' i c').ownBlock = some g ∨ g = wq.heap.size) :
    LoopP wd O p (i + 1) (w3.setCell ⟨O, 3, none⟩ (.slice (some ⟨g, 0, none⟩) (i + 1) cap)) (some ⟨g, 0, none⟩) cap := by
  have h := LoopV.step H hO (y := stVa s) (u := stHd s) (by rw [List.getElem?_map, hs]; rfl) (lies_st _ _ s hok) hbq hown3 hgrow hat
  unfold LoopP
  rw [List.take_add_one, hs, List.map_append]
  exact h
end Go.Proofs.Ytmdlcalnncncjaa
