/- A value with another one where a path leads: plain, and in memory. -/
import Derived.Test.YtmdlcalnncncjaaPCln
import Derived.Test.YtmdlcalnncncjaaTWithPr
set_option linter.unusedVariables false
set_option linter.unusedSimpArgs false
namespace Go.Proofs.Ytmdlcalnncncjaa
open Go.RowKit
/-- The value in which a path leads to x. -/
def putV : Va → List St → Va → Va
  | _, [], x => x
  | .mk k n t l ks f, s :: p, x => match subI (.mk k n t l ks f) s with
    | some i => if s.i = true then (match l[i]? with | some y => .mk k n t (l.set i (putV y p x)) ks f | none => .mk k n t l ks f) else (match f[i]? with | some y => .mk k n t l ks (f.set i (putV y p x)) | none => .mk k n t l ks f)
    | none => .mk k n t l ks f
theorem putV_L {k n : Int} {t : ByteArray} {l : List Va} {ks : List ByteArray} {f : List Va} {s : St} {p : List St} {x y : Va} {i : Nat} (hi : subI (.mk k n t l ks f) s = some i) (hs : s.i = true) (hy : l[i]? = some y) : putV (.mk k n t l ks f) (s :: p) x = .mk k n t (l.set i (putV y p x)) ks f := by
  simp only [putV]
  rw [hi]
  simp only
  rw [if_pos hs, hy]
theorem putV_F {k n : Int} {t : ByteArray} {l : List Va} {ks : List ByteArray} {f : List Va} {s : St} {p : List St} {x y : Va} {i : Nat} (hi : subI (.mk k n t l ks f) s = some i) (hs : s.i = false) (hy : f[i]? = some y) : putV (.mk k n t l ks f) (s :: p) x = .mk k n t l ks (f.set i (putV y p x)) := by
  simp only [putV]
  rw [hi]
  simp only
  rw [if_neg (by rw [hs]; decide), hy]
theorem goV_cons {k n : Int} {t : ByteArray} {l : List Va} {ks : List ByteArray} {f : List Va} {s : St} {p : List St} {b : Va} (h : goV (.mk k n t l ks f) (s :: p) = some b) : ∃ i y, subI (.mk k n t l ks f) s = some i ∧ (s.i = true → l[i]? = some y) ∧ (s.i = false → f[i]? = some y) ∧ goV y p = some b := by
  simp only [goV] at h
  cases hs : subV (.mk k n t l ks f) s with
  | none => rw [hs] at h; cases h
  | some y =>
    rw [hs] at h
    simp only [subV] at hs
    split at hs
    · rename_i i hi
      refine ⟨i, y, hi, fun e => ?_, fun e => ?_, h⟩
      · rwa [if_pos e] at hs
      · rwa [if_neg (by rw [e]; decide)] at hs
    · cases hs
/-- The five cells of a list's value, written. -/
abbrev putL (w : World) (g o : Nat) (u : Hd) : World := ((((w.setCell ⟨g, o, none⟩ (.int .i64 u.k)).setCell ⟨g, o + 1, none⟩ (.int .i64 u.n)).setCell ⟨g, o + 2, none⟩ (.string u.s)).setCell ⟨g, o + 3, none⟩ (.slice u.A u.la u.lc)).setCell ⟨g, o + 4, none⟩ (.slice u.F u.lf u.fc)
theorem putL_blk {w : World} {g o : Nat} {u : Hd} {b : Nat} (h : b ≠ g) : (putL w g o u).heap[b]? = w.heap[b]? := by
  unfold putL
  rw [Below.heap_setCell _ _ _ _ h, Below.heap_setCell _ _ _ _ h, Below.heap_setCell _ _ _ _ h, Below.heap_setCell _ _ _ _ h, Below.heap_setCell _ _ _ _ h]
theorem putL_other {w : World} {g o p : Nat} {u : Hd} (h : p < o ∨ o + 4 < p) : (putL w g o u).cell? ⟨g, p, none⟩ = w.cell? ⟨g, p, none⟩ := by
  have hne : ∀ q, q ≤ 4 → (⟨g, o + q, none⟩ : Addr) ≠ ⟨g, p, none⟩ := fun q h2 e => by
    injection e with _ e2
    omega
  have h0 := hne 0 (by omega)
  rw [Nat.add_zero] at h0
  unfold putL
  rw [World.cell?_setCell_other _ _ _ _ (hne 4 (by omega)), World.cell?_setCell_other _ _ _ _ (hne 3 (by omega)), World.cell?_setCell_other _ _ _ _ (hne 2 (by omega)), World.cell?_setCell_other _ _ _ _ (hne 1 (by omega)), World.cell?_setCell_other _ _ _ _ h0]
theorem putL_same {w : World} {g o : Nat} {u : Hd} (hs : ∀ j, j ≤ 4 → (w.cell? ⟨g, o + j, none⟩).isSome = true) (j : Nat) (c : Value) (hc : u.cells[j]? = some c) : (putL w g o u).cell? ⟨g, o + j, none⟩ = some c := by
  have h1 := Option.isSome_iff_exists.1 (hs 0 (by omega))
  have h2 := Option.isSome_iff_exists.1 (hs 1 (by omega))
  have h3 := Option.isSome_iff_exists.1 (hs 2 (by omega))
  have h4 := Option.isSome_iff_exists.1 (hs 3 (by omega))
  have h5 := Option.isSome_iff_exists.1 (hs 4 (by omega))
  obtain ⟨v1, h1⟩ := h1
  obtain ⟨v2, h2⟩ := h2
  obtain ⟨v3, h3⟩ := h3
  obtain ⟨v4, h4⟩ := h4
  obtain ⟨v5, h5⟩ := h5
  have hj : j < 5 := (List.getElem?_eq_some_iff.1 hc).1
  unfold putL
  match j, hj with
  | 0, _ =>
    simp only [Hd.cells, List.getElem?_cons_zero, Option.some.injEq] at hc
    subst hc
    rw [World.cell?_setCell_other _ _ _ _ (by simp), World.cell?_setCell_other _ _ _ _ (by simp), World.cell?_setCell_other _ _ _ _ (by simp), World.cell?_setCell_other _ _ _ _ (by simp)]
    exact World.cell?_setCell_same _ _ _ h1
  | 1, _ =>
    simp only [Hd.cells, List.getElem?_cons_succ, List.getElem?_cons_zero, Option.some.injEq] at hc
    subst hc
    rw [World.cell?_setCell_other _ _ _ _ (by simp), World.cell?_setCell_other _ _ _ _ (by simp), World.cell?_setCell_other _ _ _ _ (by simp)]
    exact World.cell?_setCell_same _ _ _ (by rw [World.cell?_setCell_other _ _ _ _ (by simp)]; exact h2)
  | 2, _ =>
    simp only [Hd.cells, List.getElem?_cons_succ, List.getElem?_cons_zero, Option.some.injEq] at hc
    subst hc
    rw [World.cell?_setCell_other _ _ _ _ (by simp), World.cell?_setCell_other _ _ _ _ (by simp)]
    exact World.cell?_setCell_same _ _ _ (by rw [World.cell?_setCell_other _ _ _ _ (by simp), World.cell?_setCell_other _ _ _ _ (by simp)]; exact h3)
  | 3, _ =>
    simp only [Hd.cells, List.getElem?_cons_succ, List.getElem?_cons_zero, Option.some.injEq] at hc
    subst hc
    rw [World.cell?_setCell_other _ _ _ _ (by simp)]
    exact World.cell?_setCell_same _ _ _ (by rw [World.cell?_setCell_other _ _ _ _ (by simp), World.cell?_setCell_other _ _ _ _ (by simp), World.cell?_setCell_other _ _ _ _ (by simp)]; exact h4)
  | 4, _ =>
    simp only [Hd.cells, List.getElem?_cons_succ, List.getElem?_cons_zero, Option.some.injEq] at hc
    subst hc
    exact World.cell?_setCell_same _ _ _ (by rw [World.cell?_setCell_other _ _ _ _ (by simp), World.cell?_setCell_other _ _ _ _ (by simp), World.cell?_setCell_other _ _ _ _ (by simp), World.cell?_setCell_other _ _ _ _ (by simp)]; exact h5)
/-- The rows of a value in memory. -/
theorem Lies.rows {w : World} {S : Nat → Prop} {k n : Int} {t : ByteArray} {l : List Va} {ks : List ByteArray} {f : List Va} {h : Hd} (H : Lies w S (.mk k n t l ks f) h) :
    ∃ us vs, us.length = l.length ∧ vs.length = f.length ∧ RowAt w S 5 h.A (us.map Hd.cells) ∧ LiesL w S l us ∧ RowAt w S 6 h.F ((ks.zip vs).map pcells) ∧ LiesL w S f vs := by
  simp only [Lies] at H
  obtain ⟨-, -, ⟨us, h1, h2⟩, ⟨vs, h3, h4⟩⟩ := H
  exact ⟨us, vs, LiesL_len h2, LiesL_len h4, h1, h2, h3, h4⟩
/-- A list with another value at a place, in a row of its own. -/
theorem lies_setL {w wc wf : World} {S S' : Nat → Prop} {k n : Int} {t : ByteArray} {l : List Va} {ks : List ByteArray} {f : List Va} {h : Hd} {us : List Hd} {g i cap : Nat} {y : Va} {u : Hd} (H : Lies w S (.mk k n t l ks f) h) (hus : LiesL w S l us)
    (hS : ∀ b, S b → S' b) (hSb : ∀ b, S b → b < w.heap.size ∧ wf.heap[b]? = w.heap[b]?) (hg : S' g) (hi : i < l.length)
    (hrow : wc.ownsRow w.heap.size 25 5 (.slice (some ⟨g, 0, none⟩) l.length cap) l.length (us.flatMap Hd.cells)) (hwf : ∀ p, wf.cell? ⟨g, p, none⟩ = (putL wc g (i * 5) u).cell? ⟨g, p, none⟩) (hy : Lies wf S' y u) :
    Lies wf S' (.mk k n t (l.set i y) ks f) ⟨h.k, h.n, h.s, some ⟨g, 0, none⟩, l.length, cap, h.F, h.lf, h.fc⟩ := by
  have hul := LiesL_len hus
  have hc2 : l.length ≤ cap := by
    rcases hrow.2 with ⟨e, _⟩ | ⟨g2, cap2, cur, hv, _, _, hle, _⟩
    · cases e
    · injection hv with _ _ h3; omega
  have hcur : ∀ j, j < l.length * 5 → (wc.cell? ⟨g, j, none⟩).isSome = true := fun j hj => by
    have hl : j < (us.flatMap Hd.cells).length := by rw [hrow.1]; exact hj
    have := hrow.cells rfl j _ (List.getElem?_eq_getElem hl)
    rw [add0] at this
    simp [this]
  have hr0 := row_of_own (S := fun _ => True) Hd.cells us cells_len hrow (fun _ _ => trivial) (.inr (by decide))
  simp only [Lies] at H
  obtain ⟨⟨e1, e2, e3, e4, e5, e6⟩, ⟨b1, b2, b3, b4, b5, b6, b7, b8⟩, -, ⟨vs, hrF, hvs⟩⟩ := H
  have hkeep : ∀ p : Addr, S p.block → p.block < w.heap.size → wf.cell? p = w.cell? p := fun p hp _ => World.cell?_of_block (hSb _ hp).2
  unfold Lies
  refine ⟨⟨e1, e2, e3, by simp, e5, e6⟩, ⟨b1, b2, b3, b4, by rw [List.length_set]; exact b5, b6, by rw [List.length_set]; exact hc2, b8⟩, ⟨us.set i u, ?_, LiesL_mk (by simp [hul]) fun j x v hx hv => ?_⟩, ⟨vs, ?_, LiesL_imp hvs fun x hx v hv => Lies.keep hkeep (fun b hb _ => hS b hb) x v hv⟩⟩
  · intro hp
    obtain ⟨ad, e, _, hc⟩ := hr0 (by simp; omega)
    obtain rfl : ad = ⟨g, 0, none⟩ := by injection e with e; exact e.symm
    refine ⟨⟨g, 0, none⟩, rfl, hg, fun j c hj jj v hv => ?_⟩
    rw [List.getElem?_map, Option.map_eq_some_iff] at hj
    obtain ⟨uu, hu, rfl⟩ := hj
    have hjj : jj < 5 := (List.getElem?_eq_some_iff.1 hv).1
    have hjl : j < us.length := by have := (List.getElem?_eq_some_iff.1 hu).1; rwa [List.length_set] at this
    rw [add0, hwf]
    by_cases ej : j = i
    · subst ej
      rw [List.getElem?_set_self hjl] at hu
      cases hu
      exact putL_same (fun q hq => hcur _ (by omega)) jj v hv
    · rw [List.getElem?_set_ne (by omega)] at hu
      rw [putL_other (by omega)]
      have := hc j uu.cells (by simp [hu]) jj v hv
      rwa [add0] at this
  · by_cases ej : j = i
    · subst ej
      rw [List.getElem?_set_self (by omega)] at hx hv
      cases hx
      cases hv
      exact hy
    · rw [List.getElem?_set_ne (by omega)] at hx hv
      obtain ⟨v', hv', hl'⟩ := LiesL_at hus hx
      rw [hv] at hv'
      cases hv'
      exact Lies.keep hkeep (fun b hb _ => hS b hb) x v hl'
  · exact hrF.keep (fun c hc => by obtain ⟨q, _, rfl⟩ := List.mem_map.1 hc; simp [pcells]) hkeep (fun b hb _ => hS b hb)
/-- An object with another value at a place, in a row of its own. -/
theorem lies_setF {w wc wf : World} {S S' : Nat → Prop} {k n : Int} {t : ByteArray} {l : List Va} {ks : List ByteArray} {f : List Va} {h : Hd} {vs : List Hd} {g i cap : Nat} {y : Va} {u : Hd} (H : Lies w S (.mk k n t l ks f) h) (hvs : LiesL w S f vs)
    (hS : ∀ b, S b → S' b) (hSb : ∀ b, S b → b < w.heap.size ∧ wf.heap[b]? = w.heap[b]?) (hg : S' g) (hi : i < f.length)
    (hrow : wc.ownsRow w.heap.size 36 6 (.slice (some ⟨g, 0, none⟩) f.length cap) f.length ((ks.zip vs).flatMap pcells)) (hwf : ∀ p, wf.cell? ⟨g, p, none⟩ = (put5 wc g (i * 6) u).cell? ⟨g, p, none⟩) (hy : Lies wf S' y u) :
    Lies wf S' (.mk k n t l ks (f.set i y)) ⟨h.k, h.n, h.s, h.A, h.la, h.lc, some ⟨g, 0, none⟩, f.length, cap⟩ := by
  have hul := LiesL_len hvs
  have hc2 : f.length ≤ cap := by
    rcases hrow.2 with ⟨e, _⟩ | ⟨g2, cap2, cur, hv, _, _, hle, _⟩
    · cases e
    · injection hv with _ _ h3; omega
  have hcur : ∀ j, j < f.length * 6 → (wc.cell? ⟨g, j, none⟩).isSome = true := fun j hj => by
    have hl : j < ((ks.zip vs).flatMap pcells).length := by rw [hrow.1]; exact hj
    have := hrow.cells rfl j _ (List.getElem?_eq_getElem hl)
    rw [add0] at this
    simp [this]
  have hr0 := row_of_own (S := fun _ => True) pcells (ks.zip vs) pcells_len hrow (fun _ _ => trivial) (.inr (by decide))
  simp only [Lies] at H
  obtain ⟨⟨e1, e2, e3, e4, e5, e6⟩, ⟨b1, b2, b3, b4, b5, b6, b7, b8⟩, ⟨us, hrL, hus⟩, -⟩ := H
  have hkeep : ∀ p : Addr, S p.block → p.block < w.heap.size → wf.cell? p = w.cell? p := fun p hp _ => World.cell?_of_block (hSb _ hp).2
  unfold Lies
  refine ⟨⟨e1, e2, e3, e4, by simp, by simp; exact e6⟩, ⟨b1, b2, b3, b4, b5, by rw [List.length_set]; exact b6, b7, by rw [List.length_set]; exact hc2⟩, ⟨us, ?_, LiesL_imp hus fun x hx v hv => Lies.keep hkeep (fun b hb _ => hS b hb) x v hv⟩, ⟨vs.set i u, ?_, LiesL_mk (by simp [hul]) fun j x v hx hv => ?_⟩⟩
  · exact hrL.keep (fun c hc => by obtain ⟨q, _, rfl⟩ := List.mem_map.1 hc; simp [Hd.cells]) hkeep (fun b hb _ => hS b hb)
  · intro hp
    have hzl : (ks.zip vs).length = f.length := by rw [List.length_zip, hul, e6]; omega
    obtain ⟨ad, e, _, hc⟩ := hr0 (by rw [List.length_map]; omega)
    obtain rfl : ad = ⟨g, 0, none⟩ := by injection e with e; exact e.symm
    refine ⟨⟨g, 0, none⟩, rfl, hg, fun j c hj jj v hv => ?_⟩
    rw [List.getElem?_map, Option.map_eq_some_iff] at hj
    obtain ⟨⟨ky, uu⟩, hu, rfl⟩ := hj
    obtain ⟨hk2, hv2⟩ := List.getElem?_zip_eq_some.1 hu
    have hjj : jj < 6 := (List.getElem?_eq_some_iff.1 hv).1
    have hjl : j < vs.length := by have := (List.getElem?_eq_some_iff.1 hv2).1; rwa [List.length_set] at this
    have old : ∀ c', (pcells (ky, vs[j]))[jj]? = some c' → wc.cell? ⟨g, j * 6 + jj, none⟩ = some c' := fun c' hc' => by
      have := hc j (pcells (ky, vs[j])) (by rw [List.getElem?_map, show (ks.zip vs)[j]? = some (ky, vs[j]) from List.getElem?_zip_eq_some.2 ⟨hk2, List.getElem?_eq_getElem hjl⟩]; rfl) jj c' hc'
      rwa [add0] at this
    rw [add0, hwf]
    by_cases ej : j = i
    · subst ej
      rw [List.getElem?_set_self hjl] at hv2
      cases hv2
      cases jj with
      | zero =>
        rw [put5_other (by omega)]
        exact old v hv
      | succ jj =>
        have := put5_same (o := j * 6) (fun q h1 h2 => hcur (j * 6 + q) (by omega)) jj v hv
        rwa [show j * 6 + (jj + 1) = j * 6 + 1 + jj by omega]
    · rw [List.getElem?_set_ne (by omega), List.getElem?_eq_getElem hjl] at hv2
      cases hv2
      rw [put5_other (by omega)]
      exact old v hv
  · by_cases ej : j = i
    · subst ej
      rw [List.getElem?_set_self (by omega)] at hx hv
      cases hx
      cases hv
      exact hy
    · rw [List.getElem?_set_ne (by omega)] at hx hv
      obtain ⟨v', hv', hl'⟩ := LiesL_at hvs hx
      rw [hv] at hv'
      cases hv'
      exact Lies.keep hkeep (fun b hb _ => hS b hb) x v hl'
end Go.Proofs.Ytmdlcalnncncjaa
