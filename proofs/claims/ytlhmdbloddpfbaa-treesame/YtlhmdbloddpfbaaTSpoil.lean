/- What the law's spoil writes lies in the value's own blocks. -/
import Derived.Test.YtlhmdbloddpfbaaTGet
set_option linter.unusedVariables false
set_option linter.unusedSimpArgs false
namespace Go.Proofs.Ytlhmdbloddpfbaa
open Go.RowKit
theorem add0' (g n : Nat) : (⟨g, 0, none⟩ : Addr).add n = ⟨g, n, none⟩ := by
  unfold Addr.add
  by_cases h : n = 0 <;> simp [h]
/-- All is kept but the blocks T. -/
structure OutK (T : Nat → Prop) (w w' : World) : Prop where
  os : w'.os = w.os
  tape : w'.tape = w.tape
  output : w'.output = w.output
  size : w.heap.size ≤ w'.heap.size
  block : ∀ b, b < w.heap.size → ¬ T b → w'.heap[b]? = w.heap[b]?
theorem OutK.refl (T : Nat → Prop) (w : World) : OutK T w w := ⟨rfl, rfl, rfl, Nat.le_refl _, fun _ _ _ => rfl⟩
theorem OutK.trans {T : Nat → Prop} {a b c : World} (h : OutK T a b) (k : OutK T b c) : OutK T a c :=
  ⟨k.os.trans h.os, k.tape.trans h.tape, k.output.trans h.output, Nat.le_trans h.size k.size, fun x h1 h2 => (k.block x (Nat.lt_of_lt_of_le h1 h.size) h2).trans (h.block x h1 h2)⟩
theorem OutK.mono {T T' : Nat → Prop} {a b : World} (h : OutK T a b) (hT : ∀ x, T x → T' x) : OutK T' a b := ⟨h.os, h.tape, h.output, h.size, fun x h1 h2 => h.block x h1 (fun q => h2 (hT x q))⟩
theorem OutK.of_below {T : Nat → Prop} {w w' : World} (h : Below w.heap.size w w') : OutK T w w' := ⟨h.os, h.tape, h.output, h.size, fun b hb _ => h.block b hb⟩
theorem OutK.set {T : Nat → Prop} {a w : World} (h : OutK T a w) {g o : Nat} (hg : T g) (v : Value) : OutK T a (w.setCell ⟨g, o, none⟩ v) :=
  ⟨h.os, h.tape, h.output, by rw [World.size_setCell]; exact h.size, fun b h1 h2 => by rw [Below.heap_setCell _ _ _ _ (fun e => h2 (by have e' : b = g := e; rw [e']; exact hg))]; exact h.block b h1 h2⟩
/-- What is still whole: the elements from i on, the pairs from j on. -/
structure Sp (T : Nat → Prop) (w : World) (h : Hd) (l : List Va) (ks : List ByteArray) (f : List Va) (us vs : List Hd) (SL SF : Nat → Nat → Prop) (i j : Nat) (wr : World) : Prop where
  ok : OutK T w wr
  box : Bx wr w.heap.size h
  cl : ∀ (p : Nat) u, i ≤ p → us[p]? = some u → ∃ g, h.A = some ⟨g, 0, none⟩ ∧ T g ∧ (∀ q, ¬ SL q g) ∧ (∀ q, ¬ SF q g) ∧ (∀ (d : Nat) c, u.cells[d]? = some c → wr.cell? ⟨g, p * 5 + d, none⟩ = some c) ∧ ∀ o, wr.frozen? ⟨g, o, none⟩ = false
  kl : ∀ (p : Nat) x u, i ≤ p → l[p]? = some x → us[p]? = some u → Own wr x (SL p) u
  cf : ∀ (p : Nat) key u, j ≤ p → ks[p]? = some key → vs[p]? = some u → ∃ g, h.F = some ⟨g, 0, none⟩ ∧ T g ∧ (∀ q, ¬ SL q g) ∧ (∀ q, ¬ SF q g) ∧ h.A ≠ some ⟨g, 0, none⟩ ∧ (∀ (d : Nat) c, (pcells (key, u))[d]? = some c → wr.cell? ⟨g, p * 6 + d, none⟩ = some c) ∧ ∀ o, wr.frozen? ⟨g, o, none⟩ = false
  kf : ∀ (p : Nat) x u, j ≤ p → f[p]? = some x → vs[p]? = some u → Own wr x (SF p) u
theorem Sp.start {T : Nat → Prop} {w w0 : World} {k n : Int} {s : ByteArray} {l : List Va} {ks : List ByteArray} {f : List Va} {h : Hd} (H : Own w (.mk k n s l ks f) T h) (hT : ∀ b, T b → b < w.heap.size) (hb : Below w.heap.size w w0) (hbx : Bx w0 w.heap.size h) :
    ∃ us vs SL SF, us.length = l.length ∧ vs.length = f.length ∧ (∀ q b, SL q b → T b) ∧ (∀ q b, SF q b → T b) ∧ (∀ p q b, SL p b → SL q b → p = q) ∧ (∀ p q b, SF p b → SF q b → p = q) ∧ (∀ p q b, SL p b → SF q b → False) ∧ Sp T w h l ks f us vs SL SF 0 0 w0 := by
  cases H with
  | mk us vs SL SF hd ul vl rl rf hl hf bl bf sl sf dl df dd =>
    have e4 := hd.1.2.2.2.1
    have e5 := hd.1.2.2.2.2.1
    have blk : ∀ b, T b → w0.heap[b]? = w.heap[b]? := fun b hb' => hb.block b (hT b hb')
    refine ⟨us, vs, SL, SF, ul, vl, sl, sf, dl, df, dd, OutK.of_below hb, hbx, ?_, fun p x u _ hx hu => Own.keep _ _ _ (hl p x u hx hu) fun b hb' => blk b (sl p b hb'), ?_, fun p x u _ hx hu => Own.keep _ _ _ (hf p x u hx hu) fun b hb' => blk b (sf p b hb')⟩
    · intro p u _ hu
      have hp : p < us.length := (List.getElem?_eq_some_iff.1 hu).1
      rcases rl.2 with ⟨_, h0⟩ | ⟨g, cap, cur, hv, _, hh, hle, _, hsz, ht⟩
      · omega
      · have eA : h.A = some ⟨g, 0, none⟩ := by injection hv
        have bg := bl g (by rw [eA]; rfl)
        have hh0 : w0.heap[g]? = some (.cells cur 25 (0, 0)) := (blk g bg.1).trans hh
        refine ⟨g, eA, bg.1, bg.2.1, bg.2.2, fun d c hc => ?_, fun o => by simp [World.frozen?, hh0]⟩
        have := rl.cells (g := g) (by rw [hv]; rfl) (p * 5 + d) c (flat_at Hd.cells 5 us (fun _ _ => rfl) p u hu d c hc)
        rw [add0'] at this
        rw [World.cell?_of_block (a := ⟨g, p * 5 + d, none⟩) (blk g bg.1)]
        exact this
    · intro p key u _ hk hu
      have hp : p < vs.length := (List.getElem?_eq_some_iff.1 hu).1
      rcases rf.2 with ⟨_, h0⟩ | ⟨g, cap, cur, hv, _, hh, hle, _, hsz, ht⟩
      · omega
      · have eF : h.F = some ⟨g, 0, none⟩ := by injection hv
        have bg := bf g (by rw [eF]; rfl)
        have hh0 : w0.heap[g]? = some (.cells cur 36 (0, 0)) := (blk g bg.1).trans hh
        refine ⟨g, eF, bg.1, bg.2.1, bg.2.2.1, fun e => bg.2.2.2 (by rw [e]; rfl), fun d c hc => ?_, fun o => by simp [World.frozen?, hh0]⟩
        have := rf.cells (g := g) (by rw [hv]; rfl) (p * 6 + d) c (flat_at pcells 6 (ks.zip vs) (fun _ _ => rfl) p (key, u) (List.getElem?_zip_eq_some.2 ⟨hk, hu⟩) d c hc)
        rw [add0'] at this
        rw [World.cell?_of_block (a := ⟨g, p * 6 + d, none⟩) (blk g bg.1)]
        exact this
/-- An element spoilt. -/
abbrev bad5 (w : World) (g o : Nat) : World := ((((w.setCell ⟨g, o, none⟩ (.int .i64 9)).setCell ⟨g, o + 1, none⟩ (.int .i64 0)).setCell ⟨g, o + 2, none⟩ (.string { data := #[] })).setCell ⟨g, o + 3, none⟩ (.slice none 0 0)).setCell ⟨g, o + 4, none⟩ (.slice none 0 0)
/-- A pair spoilt. -/
abbrev bad6 (w : World) (g o : Nat) : World := (((((w.setCell ⟨g, o, none⟩ (.string { data := #[115, 112, 111, 105, 108, 116] })).setCell ⟨g, o + 1, none⟩ (.int .i64 0)).setCell ⟨g, o + 2, none⟩ (.int .i64 0)).setCell ⟨g, o + 3, none⟩ (.string { data := #[] })).setCell ⟨g, o + 4, none⟩ (.slice none 0 0)).setCell ⟨g, o + 5, none⟩ (.slice none 0 0)
theorem bad5_blk {w : World} {g o b : Nat} (h : b ≠ g) : (bad5 w g o).heap[b]? = w.heap[b]? := by
  unfold bad5
  rw [Below.heap_setCell _ _ _ _ h, Below.heap_setCell _ _ _ _ h, Below.heap_setCell _ _ _ _ h, Below.heap_setCell _ _ _ _ h, Below.heap_setCell _ _ _ _ h]
theorem bad6_blk {w : World} {g o b : Nat} (h : b ≠ g) : (bad6 w g o).heap[b]? = w.heap[b]? := by
  unfold bad6
  rw [Below.heap_setCell _ _ _ _ h, Below.heap_setCell _ _ _ _ h, Below.heap_setCell _ _ _ _ h, Below.heap_setCell _ _ _ _ h, Below.heap_setCell _ _ _ _ h, Below.heap_setCell _ _ _ _ h]
theorem bad5_far {w : World} {g o p : Nat} (h : o + 4 < p) : (bad5 w g o).cell? ⟨g, p, none⟩ = w.cell? ⟨g, p, none⟩ := by
  have hne : ∀ q, q ≤ 4 → (⟨g, o + q, none⟩ : Addr) ≠ ⟨g, p, none⟩ := fun q h2 e => by injection e with _ e2; omega
  unfold bad5
  rw [World.cell?_setCell_other _ _ _ _ (hne 4 (by omega)), World.cell?_setCell_other _ _ _ _ (hne 3 (by omega)), World.cell?_setCell_other _ _ _ _ (hne 2 (by omega)), World.cell?_setCell_other _ _ _ _ (hne 1 (by omega)), World.cell?_setCell_other _ _ _ _ (show (⟨g, o, none⟩ : Addr) ≠ ⟨g, p, none⟩ from hne 0 (by omega))]
theorem bad6_far {w : World} {g o p : Nat} (h : o + 5 < p) : (bad6 w g o).cell? ⟨g, p, none⟩ = w.cell? ⟨g, p, none⟩ := by
  have hne : ∀ q, q ≤ 5 → (⟨g, o + q, none⟩ : Addr) ≠ ⟨g, p, none⟩ := fun q h2 e => by injection e with _ e2; omega
  unfold bad6
  rw [World.cell?_setCell_other _ _ _ _ (hne 5 (by omega)), World.cell?_setCell_other _ _ _ _ (hne 4 (by omega)), World.cell?_setCell_other _ _ _ _ (hne 3 (by omega)), World.cell?_setCell_other _ _ _ _ (hne 2 (by omega)), World.cell?_setCell_other _ _ _ _ (hne 1 (by omega)), World.cell?_setCell_other _ _ _ _ (show (⟨g, o, none⟩ : Addr) ≠ ⟨g, p, none⟩ from hne 0 (by omega))]
theorem OutK.bad5 {T : Nat → Prop} {a w : World} (h : OutK T a w) {g o : Nat} (hg : T g) : OutK T a (bad5 w g o) := ((((h.set hg _).set hg _).set hg _).set hg _).set hg _
theorem OutK.bad6 {T : Nat → Prop} {a w : World} (h : OutK T a w) {g o : Nat} (hg : T g) : OutK T a (bad6 w g o) := (((((h.set hg _).set hg _).set hg _).set hg _).set hg _).set hg _
section
variable {T : Nat → Prop} {w wr w1 : World} {h : Hd} {l : List Va} {ks : List ByteArray} {f : List Va} {us vs : List Hd} {SL SF : Nat → Nat → Prop} {i j g : Nat} {u : Hd}
theorem Sp.stepL (H : Sp T w h l ks f us vs SL SF i j wr) (hT : ∀ b, T b → b < w.heap.size) (sl : ∀ q b, SL q b → T b) (sf : ∀ q b, SF q b → T b) (dl : ∀ p q b, SL p b → SL q b → p = q) (dd : ∀ p q b, SL p b → SF q b → False)
    (hu : us[i]? = some u) (hk : OutK (SL i) wr w1) (hg : h.A = some ⟨g, 0, none⟩) : Sp T w h l ks f us vs SL SF (i + 1) j (bad5 w1 g (i * 5)) := by
  obtain ⟨g', eg, hTg, n1, n2, _, _⟩ := H.cl i u (Nat.le_refl _) hu
  obtain rfl : g = g' := by rw [hg] at eg; injection eg with e; injection e
  have hsz := H.ok.size
  have lt : ∀ b, T b → b < wr.heap.size := fun b hb => Nat.lt_of_lt_of_le (hT b hb) hsz
  have b1 : ∀ b, b < wr.heap.size → ¬ SL i b → b ≠ g → (bad5 w1 g (i * 5)).heap[b]? = wr.heap[b]? := fun b h1 h2 h3 => (bad5_blk h3).trans (hk.block b h1 h2)
  have hgk : w1.heap[g]? = wr.heap[g]? := hk.block g (lt g hTg) (n1 i)
  have hBn : ¬ SL i w.heap.size := fun q => by have := hT _ (sl i _ q); omega
  have hBg : w.heap.size ≠ g := fun e => by have := hT g hTg; omega
  refine ⟨(H.ok.trans (hk.mono (sl i))).bad5 hTg, ⟨by have := H.box.1; have := hk.size; simp; omega, fun d c hc => (World.cell?_of_block (a := ⟨w.heap.size, d, none⟩) (b1 _ H.box.1 hBn hBg)).trans (H.box.2 d c hc)⟩, ?_, ?_, ?_, ?_⟩
  · intro p u' hp hu'
    obtain ⟨g2, eg2, a1, a2, a3, a4, a5⟩ := H.cl p u' (by omega) hu'
    obtain rfl : g = g2 := by rw [hg] at eg2; injection eg2 with e; injection e
    refine ⟨g, eg2, a1, a2, a3, fun d c hc => ?_, fun o => ?_⟩
    · rw [bad5_far (by omega), World.cell?_of_block (a := ⟨g, p * 5 + d, none⟩) hgk]
      exact a4 d c hc
    · unfold Go.Proofs.Ytlhmdbloddpfbaa.bad5
      simp only [World.frozen?_setCell]
      rw [World.frozen?_of_block (a := ⟨g, o, none⟩) hgk]
      exact a5 o
  · intro p x u' hp hx hu'
    exact Own.keep _ _ _ (H.kl p x u' (by omega) hx hu') fun b hb => b1 b (lt b (sl p b hb)) (fun q => by have := dl _ _ _ hb q; omega) (fun e => n1 p (e ▸ hb))
  · intro p key u' hp hky hu'
    obtain ⟨g2, eg2, a1, a2, a3, a4, a5, a6⟩ := H.cf p key u' hp hky hu'
    have hne : g2 ≠ g := fun e => a4 (by rw [hg, e])
    have hb := b1 g2 (lt g2 a1) (a2 i) hne
    refine ⟨g2, eg2, a1, a2, a3, a4, fun d c hc => ?_, fun o => ?_⟩
    · rw [World.cell?_of_block (a := ⟨g2, p * 6 + d, none⟩) hb]
      exact a5 d c hc
    · rw [World.frozen?_of_block (a := ⟨g2, o, none⟩) hb]
      exact a6 o
  · intro p x u' hp hx hu'
    exact Own.keep _ _ _ (H.kf p x u' hp hx hu') fun b hb => b1 b (lt b (sf p b hb)) (fun q => dd _ _ _ q hb) (fun e => n2 p (e ▸ hb))
theorem Sp.stepF {key : ByteArray} (H : Sp T w h l ks f us vs SL SF i j wr) (hil : us.length ≤ i) (hT : ∀ b, T b → b < w.heap.size) (sl : ∀ q b, SL q b → T b) (sf : ∀ q b, SF q b → T b) (df : ∀ p q b, SF p b → SF q b → p = q)
    (hky : ks[j]? = some key) (hu : vs[j]? = some u) (hk : OutK (SF j) wr w1) (hg : h.F = some ⟨g, 0, none⟩) : Sp T w h l ks f us vs SL SF i (j + 1) (bad6 w1 g (j * 6)) := by
  obtain ⟨g', eg, hTg, n1, n2, _, _, _⟩ := H.cf j key u (Nat.le_refl _) hky hu
  obtain rfl : g = g' := by rw [hg] at eg; injection eg with e; injection e
  have hsz := H.ok.size
  have lt : ∀ b, T b → b < wr.heap.size := fun b hb => Nat.lt_of_lt_of_le (hT b hb) hsz
  have b1 : ∀ b, b < wr.heap.size → ¬ SF j b → b ≠ g → (bad6 w1 g (j * 6)).heap[b]? = wr.heap[b]? := fun b h1 h2 h3 => (bad6_blk h3).trans (hk.block b h1 h2)
  have hgk : w1.heap[g]? = wr.heap[g]? := hk.block g (lt g hTg) (n2 j)
  have hBn : ¬ SF j w.heap.size := fun q => by have := hT _ (sf j _ q); omega
  have hBg : w.heap.size ≠ g := fun e => by have := hT g hTg; omega
  refine ⟨(H.ok.trans (hk.mono (sf j))).bad6 hTg, ⟨by have := H.box.1; have := hk.size; simp; omega, fun d c hc => (World.cell?_of_block (a := ⟨w.heap.size, d, none⟩) (b1 _ H.box.1 hBn hBg)).trans (H.box.2 d c hc)⟩, ?_, ?_, ?_, ?_⟩
  · intro p u' hp hu'
    have := (List.getElem?_eq_some_iff.1 hu').1
    omega
  · intro p x u' hp hx hu'
    have := (List.getElem?_eq_some_iff.1 hu').1
    omega
  · intro p key' u' hp hky' hu'
    obtain ⟨g2, eg2, a1, a2, a3, a4, a5, a6⟩ := H.cf p key' u' (by omega) hky' hu'
    obtain rfl : g = g2 := by rw [hg] at eg2; injection eg2 with e; injection e
    refine ⟨g, eg2, a1, a2, a3, a4, fun d c hc => ?_, fun o => ?_⟩
    · rw [bad6_far (by omega), World.cell?_of_block (a := ⟨g, p * 6 + d, none⟩) hgk]
      exact a5 d c hc
    · unfold Go.Proofs.Ytlhmdbloddpfbaa.bad6
      simp only [World.frozen?_setCell]
      rw [World.frozen?_of_block (a := ⟨g, o, none⟩) hgk]
      exact a6 o
  · intro p x u' hp hx hu'
    exact Own.keep _ _ _ (H.kf p x u' (by omega) hx hu') fun b hb => b1 b (lt b (sf p b hb)) (fun q => by have := df _ _ _ hb q; omega) (fun e => n2 p (e ▸ hb))
end
end Go.Proofs.Ytlhmdbloddpfbaa
