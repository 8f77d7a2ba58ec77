/- An object in which a key has a value: plain, and how it is made. -/
import Derived.Test.YtmdlcalnncncjaaTGet
set_option linter.unusedVariables false
set_option linter.unusedSimpArgs false
namespace Go.Proofs.Ytmdlcalnncncjaa
open Go.RowKit Classical
/-- The keys then. -/
noncomputable def ksW (ks : List ByteArray) (key : ByteArray) : List ByteArray := if key ∈ ks then ks else ks ++ [key]
/-- The values then. -/
noncomputable def fW (ks : List ByteArray) (f : List Va) (key : ByteArray) (x : Va) : List Va := List.zipWith (fun k y => if k = key then x else y) ks f ++ (if key ∈ ks then [] else [x])
theorem ksW_at {ks : List ByteArray} {key : ByteArray} {i : Nat} (hi : i < ks.length) : (ksW ks key)[i]? = ks[i]? := by
  unfold ksW
  split
  · rfl
  · rw [List.getElem?_append_left hi]
theorem ksW_take {ks : List ByteArray} {key : ByteArray} {i : Nat} (hi : i ≤ ks.length) : (ksW ks key).take i = ks.take i := by
  unfold ksW
  split
  · rfl
  · rw [List.take_append_of_le_length hi]
theorem fW_at {ks : List ByteArray} {f : List Va} {key k2 : ByteArray} {x y : Va} {i : Nat} (hk : ks[i]? = some k2) (hy : f[i]? = some y) : (fW ks f key x)[i]? = some (if k2 = key then x else y) := by
  unfold fW
  have h1 := (List.getElem?_eq_some_iff.1 hk).1
  have h2 := (List.getElem?_eq_some_iff.1 hy).1
  rw [List.getElem?_append_left (by rw [List.length_zipWith]; omega), List.getElem?_zipWith, hk, hy]
theorem fW_len {ks : List ByteArray} {f : List Va} {key : ByteArray} {x : Va} (hl : ks.length = f.length) : (fW ks f key x).length = (ksW ks key).length := by
  unfold fW ksW
  rw [List.length_append, List.length_zipWith]
  split <;> simp <;> omega
theorem ksW_last {ks : List ByteArray} {key : ByteArray} (h : key ∉ ks) : (ksW ks key)[ks.length]? = some key := by
  unfold ksW
  rw [if_neg h, List.getElem?_append_right (Nat.le_refl _)]
  simp
theorem fW_last {ks : List ByteArray} {f : List Va} {key : ByteArray} {x : Va} (hl : ks.length = f.length) (h : key ∉ ks) : (fW ks f key x)[ks.length]? = some x := by
  unfold fW
  have e : (List.zipWith (fun k y => if k = key then x else y) ks f).length = ks.length := by rw [List.length_zipWith]; omega
  rw [if_neg h, List.getElem?_append_right (by omega), e]
  simp
theorem ksW_len_in {ks : List ByteArray} {key : ByteArray} (h : key ∈ ks) : (ksW ks key).length = ks.length := by unfold ksW; rw [if_pos h]
theorem ksW_len_out {ks : List ByteArray} {key : ByteArray} (h : key ∉ ks) : (ksW ks key).length = ks.length + 1 := by unfold ksW; rw [if_neg h]; simp
/-- The loop of the reference's With. -/
structure LoopW (wd : World) (O : Nat) (ks : List ByteArray) (f : List Va) (S : Nat → Prop) (i : Nat) (wr : World) (vs : List Hd) (F' : Option Addr) (c' : Nat) : Prop where
  kp : Kp O wd wr
  row : wr.rowIs O 25 5 (hdAt ⟨5, 0, ByteArray.empty, none, 0, 0, F', i, c'⟩)
  own : wr.ownsRow wd.heap.size 36 6 (.slice F' i c') i (((ks.take i).zip vs).flatMap pcells)
  len : vs.length = i
  lies : ∀ (j : Nat) y u, f[j]? = some y → vs[j]? = some u → Lies wd S y u
theorem LoopW.step {wd wr wq w3 : World} {O i g cap : Nat} {ks : List ByteArray} {f : List Va} {S : Nat → Prop} {vs : List Hd} {F' : Option Addr} {c' : Nat} {y : Va} {key : ByteArray} {u : Hd}
    (H : LoopW wd O ks f S i wr vs F' c') (hO : O < wd.heap.size) (hy : f[i]? = some y) (hkey : ks[i]? = some key) (hLu : Lies wd S y u) (hbq : Below wr.heap.size wr wq)
    (hown3 : w3.ownsRow wd.heap.size 36 6 (.slice (some ⟨g, 0, none⟩) (i + 1) cap) (i + 1) (((ks.take i).zip vs).flatMap pcells ++ pcells (key, u))) (hgrow : wq.grownBy w3 (Value.slice F' i c').ownBlock)
    (hat : (Value.slice F' i c').ownBlock = some g ∨ g = wq.heap.size) :
    LoopW wd O ks f S (i + 1) (w3.setCell ⟨O, 4, none⟩ (.slice (some ⟨g, 0, none⟩) (i + 1) cap)) (vs ++ [u]) (some ⟨g, 0, none⟩) cap := by
  have hkr := H.kp.size
  have hq := hbq.size
  have hg3 := hgrow.size
  have hrow : ∀ b, (Value.slice F' i c').ownBlock = some b → wd.heap.size ≤ b ∧ b < wr.heap.size := fun b hb => own_lo H.own hb
  have blk : ∀ b, b < wr.heap.size → (Value.slice F' i c').ownBlock ≠ some b → w3.heap[b]? = wr.heap[b]? := fun b h1 h2 => by
    rw [hgrow.block b (by omega) (fun e => h2 e.symm), hbq.block b h1]
  have hOn : (Value.slice F' i c').ownBlock ≠ some O := fun e => by have := hrow O e; omega
  have hgO : g ≠ O := by
    rcases hat with e | e
    · have := hrow g e; omega
    · omega
  refine ⟨?_, ?_, ?_, ?_, ?_⟩
  · refine Kp.setN ⟨?_, by omega, fun k h1 h2 => ?_⟩ _
    · exact (H.kp.bel.trans (hbq.mono (by omega))).grown hgrow (by omega) (fun k hk => by have := hrow k hk; omega)
    · rw [blk k (by omega) (fun e => by have := hrow k e; omega)]
      exact H.kp.block k h1 h2
  · have h0 := rowIs_below' (B := 0) H.row (blk O (by omega) hOn)
    refine (h0.set 4 _).congr (fun j hj => ?_)
    match j, hj with
    | 0, _ => rfl
    | 1, _ => rfl
    | 2, _ => rfl
    | 3, _ => rfl
    | 4, _ => rfl
  · have hil : i < ks.length := (List.getElem?_eq_some_iff.1 hkey).1
    rw [take_next hkey, List.zip_append (by rw [List.length_take, H.len]; omega), List.flatMap_append]
    refine own_block (v := .slice (some ⟨g, 0, none⟩) (i + 1) cap) (w := w3) ?_ fun b hb => Below.heap_setCell _ _ _ _ ?_
    · simpa using hown3
    · simp only [Value.ownBlock, Option.some.injEq] at hb
      show b ≠ O
      omega
  · simp [H.len]
  · intro j y' u' hy' hu'
    by_cases e : j < i
    · rw [List.getElem?_append_left (by rw [H.len]; exact e)] at hu'
      exact H.lies j y' u' hy' hu'
    · have hj : j < (vs ++ [u]).length := (List.getElem?_eq_some_iff.1 hu').1
      simp [H.len] at hj
      obtain rfl : j = i := by omega
      rw [List.getElem?_append_right (by rw [H.len]; exact Nat.le_refl _), H.len] at hu'
      simp at hu'
      subst hu'
      rw [hy] at hy'
      cases hy'
      exact hLu
theorem LoopW.done {wd wr wf : World} {O n : Nat} {ks : List ByteArray} {f : List Va} {S : Nat → Prop} {vs : List Hd} {F' : Option Addr} {c' : Nat} (H : LoopW wd O ks f S n wr vs F' c') (hn : n = ks.length) (hkl : ks.length = f.length) (hkm : ∀ x ∈ ks, x.size ≤ maxLen) (hfm : f.length ≤ maxLen)
    (hSO : ∀ b, S b → b ≠ O) (hblk : ∀ b, b < wr.heap.size → (S b ∨ wd.heap.size ≤ b) → wf.heap[b]? = wr.heap[b]?) : Lies wf (fun _ => True) (.mk 5 0 ByteArray.empty [] ks f) ⟨5, 0, ByteArray.empty, none, 0, 0, F', n, c'⟩ := by
  subst hn
  have own := H.own
  rw [List.take_length] at own
  have cap : f.length ≤ c' := by
    rcases own.2 with ⟨e, h0⟩ | ⟨g, cap, cur, hv, _, _, hle, _⟩
    · omega
    · injection hv with _ _ h3; omega
  unfold Lies
  refine ⟨⟨rfl, rfl, rfl, rfl, hkl, hkl⟩, ⟨by decide, by decide, by decide, hkm, by decide, hfm, Nat.le_refl _, cap⟩, ⟨[], fun h => by simp at h, by unfold LiesL; rfl⟩, ⟨vs, ?_, LiesL_mk (by rw [H.len, hkl]) fun i y u hy hu => ?_⟩⟩
  · have own2 : wf.ownsRow wd.heap.size 36 6 (.slice F' ks.length c') ks.length ((ks.zip vs).flatMap pcells) := own_block own fun g hg => hblk g (own_lo own hg).2 (.inr (own_lo own hg).1)
    exact row_of_own pcells (ks.zip vs) pcells_len own2 (fun _ _ => trivial) (.inr (by decide))
  · have h1 := H.lies i y u hy hu
    have h2 : Lies wr S y u := h1.kp H.kp hSO
    exact Lies.keep (fun p hp hlt => World.cell?_of_block (hblk p.block hlt (.inl hp))) (fun _ _ _ => trivial) y u h2
end Go.Proofs.Ytmdlcalnncncjaa
