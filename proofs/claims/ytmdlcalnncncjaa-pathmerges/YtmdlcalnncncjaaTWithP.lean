/- How tree.With changes what it made. -/
import Derived.Test.YtmdlcalnncncjaaTWithRef
set_option linter.unusedVariables false
set_option linter.unusedSimpArgs false
namespace Go.Proofs.Ytmdlcalnncncjaa
open Go.RowKit Classical
theorem add0 (g n : Nat) : (⟨g, 0, none⟩ : Addr).add n = ⟨g, n, none⟩ := by
  unfold Addr.add
  by_cases h : n = 0 <;> simp [h]
theorem fW_set {ks : List ByteArray} {f : List Va} {key : ByteArray} {x : Va} {i : Nat} (hnd : ks.Nodup) (hk : ks[i]? = some key) (hl : ks.length = f.length) : fW ks f key x = f.set i x ∧ ksW ks key = ks := by
  have hin : key ∈ ks := List.mem_of_getElem? hk
  have hik : i < ks.length := (List.getElem?_eq_some_iff.1 hk).1
  refine ⟨?_, by unfold ksW; rw [if_pos hin]⟩
  unfold fW
  rw [if_pos hin, List.append_nil]
  apply List.ext_getElem?
  intro j
  rw [List.getElem?_zipWith, List.getElem?_set]
  by_cases hj : j < ks.length
  · have e1 : ks[j]? = some ks[j] := List.getElem?_eq_getElem hj
    have e2 : f[j]? = some (f[j]'(by omega)) := List.getElem?_eq_getElem (by omega)
    rw [e1, e2]
    by_cases e : i = j
    · subst e
      rw [e1] at hk
      cases hk
      simp
      omega
    · have hne : ¬ ks[j] = key := fun h => e (((List.getElem?_inj (i := i) (j := j) hik hnd).1 (by rw [hk, e1, h])))
      simp [hne, e]
  · rw [List.getElem?_eq_none (by omega), List.getElem?_eq_none (by omega)]
    by_cases e : i = j
    · omega
    · simp [e]
theorem fW_app {ks : List ByteArray} {f : List Va} {key : ByteArray} {x : Va} (h : key ∉ ks) (hl : ks.length = f.length) : fW ks f key x = f ++ [x] ∧ ksW ks key = ks ++ [key] := by
  refine ⟨?_, by unfold ksW; rw [if_neg h]⟩
  unfold fW
  rw [if_neg h]
  congr 1
  apply List.ext_getElem?
  intro j
  rw [List.getElem?_zipWith]
  by_cases hj : j < ks.length
  · have e1 : ks[j]? = some ks[j] := List.getElem?_eq_getElem hj
    have e2 : f[j]? = some (f[j]'(by omega)) := List.getElem?_eq_getElem (by omega)
    rw [e1, e2]
    have hne : ¬ ks[j] = key := fun e => h (e ▸ List.getElem_mem hj)
    simp [hne]
  · rw [List.getElem?_eq_none (by omega), List.getElem?_eq_none (by omega)]
/-- The five cells of a pair's value, written. -/
abbrev put5 (w : World) (g o : Nat) (u : Hd) : World := ((((w.setCell ⟨g, o + 1, none⟩ (.int .i64 u.k)).setCell ⟨g, o + 2, none⟩ (.int .i64 u.n)).setCell ⟨g, o + 3, none⟩ (.string u.s)).setCell ⟨g, o + 4, none⟩ (.slice u.A u.la u.lc)).setCell ⟨g, o + 5, none⟩ (.slice u.F u.lf u.fc)
theorem put5_blk {w : World} {g o : Nat} {u : Hd} {b : Nat} (h : b ≠ g) : (put5 w g o u).heap[b]? = w.heap[b]? := by
  unfold put5
  rw [Below.heap_setCell _ _ _ _ h, Below.heap_setCell _ _ _ _ h, Below.heap_setCell _ _ _ _ h, Below.heap_setCell _ _ _ _ h, Below.heap_setCell _ _ _ _ h]
theorem put5_other {w : World} {g o p : Nat} {u : Hd} (h : p ≤ o ∨ o + 5 < p) : (put5 w g o u).cell? ⟨g, p, none⟩ = w.cell? ⟨g, p, none⟩ := by
  have hne : ∀ q, 1 ≤ q → q ≤ 5 → (⟨g, o + q, none⟩ : Addr) ≠ ⟨g, p, none⟩ := fun q h1 h2 e => by
    injection e with _ e2
    omega
  unfold put5
  rw [World.cell?_setCell_other _ _ _ _ (hne 5 (by omega) (by omega)), World.cell?_setCell_other _ _ _ _ (hne 4 (by omega) (by omega)), World.cell?_setCell_other _ _ _ _ (hne 3 (by omega) (by omega)), World.cell?_setCell_other _ _ _ _ (hne 2 (by omega) (by omega)), World.cell?_setCell_other _ _ _ _ (hne 1 (by omega) (by omega))]
theorem put5_same {w : World} {g o : Nat} {u : Hd} (hs : ∀ j, 1 ≤ j → j ≤ 5 → (w.cell? ⟨g, o + j, none⟩).isSome = true) (j : Nat) (c : Value) (hc : u.cells[j]? = some c) : (put5 w g o u).cell? ⟨g, o + 1 + j, none⟩ = some c := by
  have h1 := Option.isSome_iff_exists.1 (hs 1 (by omega) (by omega))
  have h2 := Option.isSome_iff_exists.1 (hs 2 (by omega) (by omega))
  have h3 := Option.isSome_iff_exists.1 (hs 3 (by omega) (by omega))
  have h4 := Option.isSome_iff_exists.1 (hs 4 (by omega) (by omega))
  have h5 := Option.isSome_iff_exists.1 (hs 5 (by omega) (by omega))
  obtain ⟨v1, h1⟩ := h1
  obtain ⟨v2, h2⟩ := h2
  obtain ⟨v3, h3⟩ := h3
  obtain ⟨v4, h4⟩ := h4
  obtain ⟨v5, h5⟩ := h5
  have hj : j < 5 := (List.getElem?_eq_some_iff.1 hc).1
  unfold put5
  match j, hj with
  | 0, _ =>
    simp only [Hd.cells, List.getElem?_cons_zero, Option.some.injEq] at hc
    subst hc
    rw [World.cell?_setCell_other _ _ _ _ (by simp), World.cell?_setCell_other _ _ _ _ (by simp), World.cell?_setCell_other _ _ _ _ (by simp), World.cell?_setCell_other _ _ _ _ (by simp)]
    exact World.cell?_setCell_same _ _ _ h1
  | 1, _ =>
    simp only [Hd.cells, List.getElem?_cons_succ, List.getElem?_cons_zero, Option.some.injEq] at hc
    subst hc
    rw [World.cell?_setCell_other _ _ _ _ (by simp), World.cell?_setCell_other _ _ _ _ (by simp), World.cell?_setCell_other _ _ _ _ (by simp)]
    exact World.cell?_setCell_same _ _ _ (by rw [World.cell?_setCell_other _ _ _ _ (by simp)]; exact h2)
  | 2, _ =>
    simp only [Hd.cells, List.getElem?_cons_succ, List.getElem?_cons_zero, Option.some.injEq] at hc
    subst hc
    rw [World.cell?_setCell_other _ _ _ _ (by simp), World.cell?_setCell_other _ _ _ _ (by simp)]
    exact World.cell?_setCell_same _ _ _ (by rw [World.cell?_setCell_other _ _ _ _ (by simp), World.cell?_setCell_other _ _ _ _ (by simp)]; exact h3)
  | 3, _ =>
    simp only [Hd.cells, List.getElem?_cons_succ, List.getElem?_cons_zero, Option.some.injEq] at hc
    subst hc
    rw [World.cell?_setCell_other _ _ _ _ (by simp)]
    exact World.cell?_setCell_same _ _ _ (by rw [World.cell?_setCell_other _ _ _ _ (by simp), World.cell?_setCell_other _ _ _ _ (by simp), World.cell?_setCell_other _ _ _ _ (by simp)]; exact h4)
  | 4, _ =>
    simp only [Hd.cells, List.getElem?_cons_succ, List.getElem?_cons_zero, Option.some.injEq] at hc
    subst hc
    exact World.cell?_setCell_same _ _ _ (by rw [World.cell?_setCell_other _ _ _ _ (by simp), World.cell?_setCell_other _ _ _ _ (by simp), World.cell?_setCell_other _ _ _ _ (by simp), World.cell?_setCell_other _ _ _ _ (by simp)]; exact h5)
/-- What is known of an own object's row. -/
theorem own_row {w : World} {k n : Int} {s : ByteArray} {l : List Va} {ks : List ByteArray} {f : List Va} {T : Nat → Prop} {h : Hd} (H : Own w (.mk k n s l ks f) T h) (hf : 0 < f.length) : ∃ g cap cur, h.F = some ⟨g, 0, none⟩ ∧ T g ∧ w.heap[g]? = some (.cells cur 36 (0, 0)) ∧ f.length ≤ cap ∧ cur.size = cap * 6 := by
  cases H with
  | mk us vs SL SF hd ul vl rl rf hl hF bl bf sl sf dl df dd =>
    rcases rf.2 with ⟨_, h0⟩ | ⟨g, cap, cur, hv, _, hh, hle, _, hsz, _⟩
    · omega
    · injection hv with e1 e2 e3
      refine ⟨g, cap, cur, e1, (bf g (by rw [e1]; rfl)).1, hh, hle, hsz⟩
theorem lies_put {w4 w7 : World} {k n : Int} {s : ByteArray} {l : List Va} {ks : List ByteArray} {f : List Va} {T T7 : Nat → Prop} {h : Hd} {x : Va} {u : Hd} {g i : Nat} {S : Nat → Prop} (hS : ∀ b, T b → S b) (hS7 : ∀ b, T7 b → S b) (H : Own w4 (.mk k n s l ks f) T h) (hT : ∀ b, T b → w7.heap[b]? = w4.heap[b]?) (hi : i < f.length) (hx : Own w7 x T7 u) (hT7 : ∀ b, T7 b → ¬ T b) (hg : h.F = some ⟨g, 0, none⟩) :
    Lies (put5 w7 g (i * 6) u) S (.mk k n s l ks (f.set i x)) h := by
  obtain ⟨g', cap, cur, hg', hTg, hh, hcap, hsz⟩ := own_row H (by omega)
  obtain rfl : g = g' := by rw [hg] at hg'; injection hg' with e; injection e
  have hcells : ∀ j, 1 ≤ j → j ≤ 5 → (w7.cell? ⟨g, i * 6 + j, none⟩).isSome = true := fun j h1 h2 => by
    have : w7.heap[g]? = some (.cells cur 36 (0, 0)) := (hT g hTg).trans hh
    rw [cell_of_row w7 g _ cur 36 (0, 0) this]
    have : i * 6 + j < cur.size := by rw [hsz]; omega
    simp [this]
  cases H with
  | mk us vs SL SF hd ul vl rl rf hl hF bl bf sl sf dl df dd =>
    have hgo : (Value.slice h.F h.lf h.fc).ownBlock = some g := by rw [hg]; rfl
    have bg := bf g hgo
    have blk : ∀ b, T b → b ≠ g → (put5 w7 g (i * 6) u).heap[b]? = w4.heap[b]? := fun b h1 h2 => (put5_blk h2).trans (hT b h1)
    unfold Lies
    refine ⟨⟨hd.1.1, hd.1.2.1, hd.1.2.2.1, hd.1.2.2.2.1, by rw [List.length_set]; exact hd.1.2.2.2.2.1, by rw [List.length_set]; exact hd.1.2.2.2.2.2⟩, ⟨hd.2.1, hd.2.2.1, hd.2.2.2.1, hd.2.2.2.2.1, hd.2.2.2.2.2.1, by rw [List.length_set]; exact hd.2.2.2.2.2.2.1, hd.2.2.2.2.2.2.2.1, by rw [List.length_set]; exact hd.2.2.2.2.2.2.2.2⟩, ⟨us, ?_, LiesL_mk ul fun j y v hy hv => ?_⟩, ⟨vs.set i u, ?_, LiesL_mk (by simp [vl]) fun j y v hy hv => ?_⟩⟩
    · have e := hd.1.2.2.2.1
      rw [← e] at rl
      exact row_of_own Hd.cells us cells_len (own_block rl fun b hb => blk b (bl b hb).1 (fun e2 => bg.2.2.2 (e2 ▸ hb))) (fun b hb => hS b (bl b hb).1) (.inr (by decide))
    · exact Lies.keep (fun _ _ _ => rfl) (fun b hb _ => hS b (sl j b hb)) _ _ (Own.lies _ _ _ (Own.keep y _ v (hl j y v hy hv) fun b hb => blk b (sl j b hb) (fun e2 => bg.2.1 j (e2 ▸ hb))))
    · have e := hd.1.2.2.2.2.1
      rw [← e] at rf
      have r0 := row_of_own (S := fun _ => True) pcells (ks.zip vs) pcells_len rf (fun _ _ => trivial) (.inr (by decide))
      intro hp
      have hzl : (ks.zip (vs.set i u)).length = (ks.zip vs).length := by rw [List.length_zip, List.length_zip, List.length_set]
      obtain ⟨ad, e1, _, hc⟩ := r0 (by rw [List.length_map] at hp ⊢; omega)
      obtain rfl : ad = ⟨g, 0, none⟩ := by rw [hg] at e1; injection e1 with e1; exact e1.symm
      refine ⟨⟨g, 0, none⟩, hg, hS g hTg, fun j c hj jj v hv => ?_⟩
      rw [List.getElem?_map, Option.map_eq_some_iff] at hj
      obtain ⟨⟨ky, hh2⟩, hz, rfl⟩ := hj
      obtain ⟨hk2, hv2⟩ := List.getElem?_zip_eq_some.1 hz
      rw [add0]
      have hjj : jj < 6 := (List.getElem?_eq_some_iff.1 hv).1
      have hjl : j < vs.length := by have := (List.getElem?_eq_some_iff.1 hv2).1; rwa [List.length_set] at this
      have old : ∀ c', (pcells (ky, vs[j]))[jj]? = some c' → w7.cell? ⟨g, j * 6 + jj, none⟩ = some c' := fun c' hc' => by
        have := hc j (pcells (ky, vs[j])) (by rw [List.getElem?_map, show (ks.zip vs)[j]? = some (ky, vs[j]) from List.getElem?_zip_eq_some.2 ⟨hk2, List.getElem?_eq_getElem hjl⟩]; rfl) jj c' hc'
        rw [add0] at this
        rw [World.cell?_of_block (a := ⟨g, j * 6 + jj, none⟩) (hT g hTg)]
        exact this
      by_cases ej : j = i
      · subst ej
        rw [List.getElem?_set_self (by omega)] at hv2
        cases hv2
        cases jj with
        | zero =>
          rw [put5_other (by omega)]
          exact old v hv
        | succ jj =>
          have := put5_same hcells jj v hv
          rwa [show j * 6 + (jj + 1) = j * 6 + 1 + jj by omega]
      · rw [List.getElem?_set_ne (by omega), List.getElem?_eq_getElem hjl] at hv2
        cases hv2
        rw [put5_other (by omega)]
        exact old v hv
    · by_cases ej : j = i
      · subst ej
        rw [List.getElem?_set_self (by omega)] at hy hv
        cases hy
        cases hv
        exact Lies.keep (fun _ _ _ => rfl) (fun b hb _ => hS7 b hb) _ _ (Own.lies _ _ _ (Own.keep x _ u hx fun b hb => put5_blk (fun e2 => hT7 b hb (e2 ▸ hTg))))
      · rw [List.getElem?_set_ne (by omega)] at hy hv
        exact Lies.keep (fun _ _ _ => rfl) (fun b hb _ => hS b (sf j b hb)) _ _ (Own.lies _ _ _ (Own.keep y _ v (hF j y v hy hv) fun b hb => blk b (sf j b hb) (fun e2 => bg.2.2.1 j (e2 ▸ hb))))
theorem own_app {w4 : World} {k n : Int} {s : ByteArray} {l : List Va} {ks : List ByteArray} {f : List Va} {T : Nat → Prop} {h : Hd} (H : Own w4 (.mk k n s l ks f) T h) :
    ∃ vs : List Hd, w4.ownsRow 0 36 6 (.slice h.F f.length h.fc) f.length ((ks.zip vs).flatMap pcells) ∧ (∀ g, (Value.slice h.F f.length h.fc).ownBlock = some g → T g) ∧
      ∀ (w7 w8 wz : World) (o : Obj) (g cap base Wb : Nat) (u : Hd) (x : Va) (T7 : Nat → Prop) (key : ByteArray) (S : Nat → Prop), (∀ b, T b → S b) → (∀ b, T7 b → S b) → S g → (∀ b, T b → w7.heap[b]? = w4.heap[b]? ∧ b < w7.heap.size) → Own w7 x T7 u → (∀ b, T7 b → ¬ T b ∧ b < w7.heap.size) →
        w8.ownsRow base 36 6 (.slice (some ⟨g, 0, none⟩) (f.length + 1) cap) (f.length + 1) ((ks.zip vs).flatMap pcells ++ pcells (key, u)) → (w7.alloc o).grownBy w8 (Value.slice h.F f.length h.fc).ownBlock →
        (∀ b, b ≠ Wb → wz.heap[b]? = w8.heap[b]?) → ¬ T Wb → ¬ T7 Wb → g ≠ Wb → ((Value.slice h.F f.length h.fc).ownBlock = some g ∨ g = w7.heap.size + 1) → key.size ≤ maxLen → f.length + 1 ≤ maxLen →
        Lies wz S (.mk k n s l (ks ++ [key]) (f ++ [x])) ⟨h.k, h.n, h.s, h.A, h.la, h.lc, some ⟨g, 0, none⟩, f.length + 1, cap⟩ := by
  cases H with
  | mk us vs SL SF hd ul vl rl rf hl hF bl bf sl sf dl df dd =>
    have elf := hd.1.2.2.2.2.1
    rw [elf] at rf
    have bf' : ∀ g, (Value.slice h.F f.length h.fc).ownBlock = some g → T g ∧ (∀ i, ¬ SL i g) ∧ (∀ i, ¬ SF i g) ∧ (Value.slice h.A h.la h.lc).ownBlock ≠ some g := fun g hg => bf g (by rw [elf]; exact hg)
    refine ⟨vs, rf, fun g hg => (bf' g hg).1, ?_⟩
    intro w7 w8 wz o g cap base Wb u x T7 key S hS hS7 hSg hT hx hT7 hown8 hgrow hwz hTW hT7W hgW hat hks hfm
    have row7 : ∀ b, (Value.slice h.F f.length h.fc).ownBlock = some b → T b := fun b hb => (bf' b hb).1
    have blk : ∀ b, T b → (Value.slice h.F f.length h.fc).ownBlock ≠ some b → wz.heap[b]? = w4.heap[b]? := fun b h1 h2 => by
      rw [hwz b (fun e => hTW (e ▸ h1)), hgrow.block b (by have := (hT b h1).2; simp; omega) (fun e => h2 e.symm), Below.heap_alloc _ _ _ (hT b h1).2]
      exact (hT b h1).1
    have blk7 : ∀ b, T7 b → wz.heap[b]? = w7.heap[b]? := fun b h1 => by
      rw [hwz b (fun e => hT7W (e ▸ h1)), hgrow.block b (by have := (hT7 b h1).2; simp; omega) (fun e => (hT7 b h1).1 (row7 b e.symm)), Below.heap_alloc _ _ _ (hT7 b h1).2]
    have hzl : ks.length = vs.length := by rw [vl]; exact hd.1.2.2.2.2.2
    unfold Lies
    have capb : f.length + 1 ≤ cap := by
      rcases hown8.2 with ⟨e, h0⟩ | ⟨g2, cap2, cur, hv, _, _, hle, _⟩
      · cases e
      · injection hv with _ _ h3; omega
    refine ⟨⟨hd.1.1, hd.1.2.1, hd.1.2.2.1, hd.1.2.2.2.1, by simp, by simp; exact hd.1.2.2.2.2.2⟩, ⟨hd.2.1, hd.2.2.1, hd.2.2.2.1, ?_, hd.2.2.2.2.2.1, by simpa using hfm, hd.2.2.2.2.2.2.2.1, by simpa using capb⟩, ⟨us, ?_, LiesL_mk ul fun j y v hy hv => ?_⟩, ⟨vs ++ [u], ?_, LiesL_mk (by simp [vl]) fun j y v hy hv => ?_⟩⟩
    · intro y hy
      rcases List.mem_append.1 hy with hy | hy
      · exact hd.2.2.2.2.1 y hy
      · simp at hy; subst hy; exact hks
    · have e := hd.1.2.2.2.1
      rw [← e] at rl
      exact row_of_own Hd.cells us cells_len (own_block rl fun b hb => blk b (bl b hb).1 (fun e2 => (bf' b e2).2.2.2 hb)) (fun b hb => hS b (bl b hb).1) (.inr (by decide))
    · exact Lies.keep (fun _ _ _ => rfl) (fun b hb _ => hS b (sl j b hb)) _ _ (Own.lies _ _ _ (Own.keep y _ v (hl j y v hy hv) fun b hb => blk b (sl j b hb) (fun e2 => (bf' b e2).2.1 j hb)))
    · rw [List.zip_append hzl]
      have own9 : wz.ownsRow base 36 6 (.slice (some ⟨g, 0, none⟩) (f.length + 1) cap) (f.length + 1) ((ks.zip vs ++ [key].zip [u]).flatMap pcells) := by
        refine own_block ?_ fun b hb => hwz b ?_
        · simpa using hown8
        · simp only [Value.ownBlock, Option.some.injEq] at hb
          omega
      exact row_of_own pcells _ pcells_len own9 (fun b hb => by simp only [Value.ownBlock, Option.some.injEq] at hb; exact hb ▸ hSg) (.inr (by decide))
    · by_cases ej : j < f.length
      · rw [List.getElem?_append_left ej] at hy
        rw [List.getElem?_append_left (by omega)] at hv
        exact Lies.keep (fun _ _ _ => rfl) (fun b hb _ => hS b (sf j b hb)) _ _ (Own.lies _ _ _ (Own.keep y _ v (hF j y v hy hv) fun b hb => blk b (sf j b hb) (fun e2 => (bf' b e2).2.2.1 j hb)))
      · have hj := (List.getElem?_eq_some_iff.1 hy).1
        simp at hj
        obtain rfl : j = f.length := by omega
        rw [List.getElem?_append_right (Nat.le_refl _)] at hy
        rw [List.getElem?_append_right (by omega), vl] at hv
        simp at hy hv
        subst hy hv
        exact Lies.keep (fun _ _ _ => rfl) (fun b hb _ => hS7 b hb) _ _ (Own.lies _ _ _ (Own.keep x _ u hx blk7))
end Go.Proofs.Ytmdlcalnncncjaa
