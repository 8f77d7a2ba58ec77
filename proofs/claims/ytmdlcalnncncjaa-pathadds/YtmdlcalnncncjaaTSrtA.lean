/- What the reference's Sorted answers, as a plain function. -/
import Derived.Test.YtmdlcalnncncjaaTSam
set_option linter.unusedVariables false
set_option linter.unusedSimpArgs false
namespace Go.Proofs.Ytmdlcalnncncjaa
open Go.RowKit
def lessB (x y : ByteArray) : Bool := Op.bytesLess x.toList y.toList
/-- How many keys at the beginning are below a key. -/
def plc : List ByteArray → ByteArray → Nat
  | [], _ => 0
  | x :: r, key => if lessB x key then plc r key + 1 else 0
theorem plc_le (key : ByteArray) : ∀ ks : List ByteArray, plc ks key ≤ ks.length
  | [] => Nat.le_refl _
  | x :: r => by
    have := plc_le key r
    simp only [plc, List.length_cons]
    split <;> omega
theorem plc_step {key : ByteArray} : ∀ {ks : List ByteArray} {k : Nat} {x : ByteArray}, k ≤ plc ks key → ks[k]? = some x → lessB x key = true → k + 1 ≤ plc ks key
  | [], k, x, _, h, _ => by simp at h
  | y :: r, 0, x, _, h, hl => by
    simp at h
    subst h
    simp [plc, hl]
  | y :: r, k + 1, x, hk, h, hl => by
    simp only [plc] at hk ⊢
    split at hk
    · rename_i hy
      rw [if_pos hy]
      have := plc_step (ks := r) (k := k) (by omega) (by simpa using h) hl
      omega
    · omega
theorem plc_stop {key : ByteArray} : ∀ {ks : List ByteArray} {k : Nat} {x : ByteArray}, k ≤ plc ks key → ks[k]? = some x → lessB x key = false → k = plc ks key
  | [], k, x, _, h, _ => by simp at h
  | y :: r, 0, x, _, h, hl => by
    simp at h
    subst h
    simp [plc, hl]
  | y :: r, k + 1, x, hk, h, hl => by
    simp only [plc] at hk ⊢
    split at hk
    · rename_i hy
      rw [if_pos hy]
      have := plc_stop (ks := r) (k := k) (by omega) (by simpa using h) hl
      omega
    · omega
theorem plc_end {key : ByteArray} {ks : List ByteArray} {k : Nat} (h : k ≤ plc ks key) (hk : ks.length ≤ k) : k = plc ks key := by
  have := plc_le key ks
  omega
/-- A pair put among pairs. -/
def putP {α : Type} (acc : List (ByteArray × α)) (p : ByteArray × α) : List (ByteArray × α) := acc.take (plc (acc.map Prod.fst) p.1) ++ p :: acc.drop (plc (acc.map Prod.fst) p.1)
def srtP {α : Type} (ps : List (ByteArray × α)) : List (ByteArray × α) := ps.foldl putP []
theorem putP_length {α : Type} (acc : List (ByteArray × α)) (p : ByteArray × α) : (putP acc p).length = acc.length + 1 := by
  have := plc_le p.1 (acc.map Prod.fst)
  simp only [List.length_map] at this
  simp only [putP, List.length_append, List.length_take, List.length_cons, List.length_drop]
  omega
theorem foldP_length {α : Type} : ∀ (ps acc : List (ByteArray × α)), (ps.foldl putP acc).length = acc.length + ps.length
  | [], acc => rfl
  | p :: r, acc => by
    rw [List.foldl_cons, foldP_length r, putP_length, List.length_cons]
    omega
theorem srtP_length {α : Type} (ps : List (ByteArray × α)) : (srtP ps).length = ps.length := by
  rw [srtP, foldP_length]
  simp
theorem srtP_step {α : Type} {ps : List (ByteArray × α)} {i : Nat} {p : ByteArray × α} (h : ps[i]? = some p) : srtP (ps.take (i + 1)) = putP (srtP (ps.take i)) p := by
  rw [srtP, List.take_add_one, h]
  simp [srtP, List.foldl_append]
/-- The same order whatever the pairs hold: a putting is a putting of what is held. -/
theorem putP_map {α β : Type} (g : α → β) (acc : List (ByteArray × α)) (p : ByteArray × α) : (putP acc p).map (fun q => (q.1, g q.2)) = putP (acc.map fun q => (q.1, g q.2)) (p.1, g p.2) := by
  have : (acc.map fun q => (q.1, g q.2)).map Prod.fst = acc.map Prod.fst := by simp [List.map_map, Function.comp_def]
  simp only [putP, this, List.map_append, List.map_take, List.map_cons, List.map_drop]
mutual
/-- A value with its pairs by their keys. -/
def Va.srt : Va → Va
  | .mk k n s l ks f => .mk k n s (srtL l) ((srtP (ks.zip (srtL f))).map Prod.fst) ((srtP (ks.zip (srtL f))).map Prod.snd)
def srtL : List Va → List Va
  | [] => []
  | x :: r => x.srt :: srtL r
end
theorem srtL_map : ∀ l : List Va, srtL l = l.map Va.srt
  | [] => rfl
  | x :: r => by rw [srtL, List.map_cons, srtL_map r]
theorem srtL_get {l : List Va} {i : Nat} {x : Va} (h : l[i]? = some x) : (srtL l)[i]? = some x.srt := by
  rw [srtL_map, List.getElem?_map, h]
  rfl
theorem srtL_length (l : List Va) : (srtL l).length = l.length := by rw [srtL_map, List.length_map]
end Go.Proofs.Ytmdlcalnncncjaa
