/- Values (api.Value) as plain trees, and how they lie in memory. -/
import Derived.Test.YtbinmhcjadkmgaaDoorBase
import Derived.Deep.Draws
set_option linter.unusedVariables false
set_option linter.unusedSimpArgs false
namespace Go.Proofs.YtbinmhcjadkmgaaDoor
open Go.RowKit

/-- A value as data: kind, number, text, elements, keys, the keys' values. -/
inductive Va : Type
  | mk (k n : Int) (s : ByteArray) (l : List Va) (ks : List ByteArray) (f : List Va)
/-- A value's five cells. -/
structure Hd where
  k : Int
  n : Int
  s : ByteArray
  A : Option Addr
  la : Nat
  lc : Nat
  F : Option Addr
  lf : Nat
  fc : Nat
def Hd.cells (h : Hd) : List Value := [.int .i64 h.k, .int .i64 h.n, .string h.s, .slice h.A h.la h.lc, .slice h.F h.lf h.fc]
def Hd.val (h : Hd) : Value := .agg #[.int .i64 h.k, .int .i64 h.n, .string h.s, .slice h.A h.la h.lc, .slice h.F h.lf h.fc]
/-- A pair's six cells. -/
def pcells (p : ByteArray × Hd) : List Value := .string p.1 :: p.2.cells

mutual
def Va.cnt : Va → Nat
  | .mk _ _ _ l _ f => 1 + cntL l + cntL f
def cntL : List Va → Nat
  | [] => 0
  | x :: r => x.cnt + cntL r
end
theorem cntL_mem {x : Va} : ∀ {l : List Va}, x ∈ l → x.cnt ≤ cntL l
  | y :: r, h => by
    rcases List.mem_cons.1 h with rfl | h
    · simp only [cntL]; omega
    · have := cntL_mem h; simp only [cntL]; omega
theorem Va.ind {p : Va → Prop} (h : ∀ k n s l ks f, (∀ x ∈ l, p x) → (∀ x ∈ f, p x) → p (.mk k n s l ks f)) : ∀ a, p a := by
  have H : ∀ m a, Va.cnt a ≤ m → p a := by
    intro m
    induction m with
    | zero =>
      intro a ha
      cases a
      simp only [Va.cnt] at ha
      omega
    | succ m ih =>
      intro a ha
      obtain ⟨k, n, s, l, ks, f⟩ := a
      simp only [Va.cnt] at ha
      exact h k n s l ks f (fun x hx => ih x (by have := cntL_mem hx; omega)) (fun x hx => ih x (by have := cntL_mem hx; omega))
  exact fun a => H _ a (Nat.le_refl _)

/-- Rows of cells: the elements' cells, 'size' each, lie one behind the other from A on, in a block of S. -/
def RowAt (w : World) (S : Nat → Prop) (size : Nat) (A : Option Addr) (cs : List (List Value)) : Prop :=
  0 < cs.length → ∃ ad, A = some ad ∧ S ad.block ∧ ∀ (i : Nat) c, cs[i]? = some c → ∀ (j : Nat) u, c[j]? = some u → w.cell? (ad.add (i * size + j)) = some u

mutual
def Lies (w : World) (S : Nat → Prop) : Va → Hd → Prop
  | .mk k n s l ks f, h => (h.k = k ∧ h.n = n ∧ h.s = s ∧ h.la = l.length ∧ h.lf = f.length ∧ ks.length = f.length) ∧
      ((-9223372036854775808 ≤ k ∧ k ≤ 9223372036854775807) ∧ (-9223372036854775808 ≤ n ∧ n ≤ 9223372036854775807) ∧ s.size ≤ maxLen ∧ (∀ x ∈ ks, x.size ≤ maxLen) ∧ l.length ≤ maxLen ∧ f.length ≤ maxLen ∧ l.length ≤ h.lc ∧ f.length ≤ h.fc) ∧
      (∃ us, RowAt w S 5 h.A (us.map Hd.cells) ∧ LiesL w S l us) ∧ (∃ us, RowAt w S 6 h.F ((ks.zip us).map pcells) ∧ LiesL w S f us)
def LiesL (w : World) (S : Nat → Prop) : List Va → List Hd → Prop
  | [], us => us = []
  | x :: r, us => ∃ u us', us = u :: us' ∧ Lies w S x u ∧ LiesL w S r us'
end
theorem LiesL_len {w : World} {S : Nat → Prop} : ∀ {l : List Va} {us : List Hd}, LiesL w S l us → us.length = l.length
  | [], us, h => by simp only [LiesL] at h; simp [h]
  | x :: r, us, h => by
    simp only [LiesL] at h
    obtain ⟨u, us', rfl, _, h2⟩ := h
    simp [LiesL_len h2]
theorem LiesL_at {w : World} {S : Nat → Prop} : ∀ {l : List Va} {us : List Hd}, LiesL w S l us → ∀ {i : Nat} {x : Va}, l[i]? = some x → ∃ u, us[i]? = some u ∧ Lies w S x u
  | [], us, h, i, x, hx => by simp at hx
  | y :: r, us, h, i, x, hx => by
    simp only [LiesL] at h
    obtain ⟨u, us', rfl, h1, h2⟩ := h
    cases i with
    | zero =>
      simp at hx
      subst hx
      exact ⟨u, rfl, h1⟩
    | succ i => exact LiesL_at h2 (by simpa using hx)
theorem LiesL_imp {w w' : World} {S S' : Nat → Prop} : ∀ {l : List Va} {us : List Hd}, LiesL w S l us → (∀ x ∈ l, ∀ u, Lies w S x u → Lies w' S' x u) → LiesL w' S' l us
  | [], us, h, _ => by simp only [LiesL] at h ⊢; exact h
  | x :: r, us, h, hi => by
    simp only [LiesL] at h ⊢
    obtain ⟨u, us', rfl, h1, h2⟩ := h
    exact ⟨u, us', rfl, hi x (by simp) u h1, LiesL_imp h2 (fun y hy => hi y (by simp [hy]))⟩
theorem LiesL_mk {w : World} {S : Nat → Prop} : ∀ {l : List Va} {us : List Hd}, us.length = l.length → (∀ (i : Nat) x u, l[i]? = some x → us[i]? = some u → Lies w S x u) → LiesL w S l us
  | [], us, hl, _ => by simp only [LiesL]; simpa using hl
  | x :: r, us, hl, h => by
    simp only [LiesL]
    cases us with
    | nil => simp at hl
    | cons u us => exact ⟨u, us, rfl, h 0 x u rfl rfl, LiesL_mk (by simpa using hl) (fun i y v hy hv => h (i + 1) y v (by simpa using hy) (by simpa using hv))⟩
theorem adb (a : Addr) (n : Nat) : (a.add n).block = a.block := by unfold Addr.add; split <;> rfl
theorem ada (a : Addr) (i j : Nat) : (a.add i).add j = a.add (i + j) := by
  unfold Addr.add
  by_cases hi : i = 0 <;> by_cases hj : j = 0 <;> simp [hi, hj, Nat.add_assoc]
theorem RowAt.keep {w w' : World} {S S' : Nat → Prop} {size : Nat} {A : Option Addr} {cs : List (List Value)} (h : RowAt w S size A cs) (hne : ∀ c ∈ cs, c ≠ [])
    (hk : ∀ p : Addr, S p.block → p.block < w.heap.size → w'.cell? p = w.cell? p) (hS : ∀ b, S b → b < w.heap.size → S' b) : RowAt w' S' size A cs := by
  intro hp
  obtain ⟨ad, rfl, hs, hc⟩ := h hp
  have h0 : cs[0]? = some cs[0] := List.getElem?_eq_getElem hp
  have hb : ad.block < w.heap.size := by
    have hn := hne cs[0] (List.getElem_mem hp)
    cases hcs : cs[0] with
    | nil => exact absurd hcs hn
    | cons u us =>
      have := hc 0 _ h0 0 u (by rw [hcs]; rfl)
      have := World.block_lt_of_cell? w _ this
      rwa [adb] at this
  exact ⟨ad, rfl, hS _ hs hb, fun i c hi j u hu => (hk _ (by rw [adb]; exact hs) (by rw [adb]; exact hb)).trans (hc i c hi j u hu)⟩
theorem Lies.keep {w w' : World} {S S' : Nat → Prop} (hk : ∀ p : Addr, S p.block → p.block < w.heap.size → w'.cell? p = w.cell? p) (hS : ∀ b, S b → b < w.heap.size → S' b) :
    ∀ (a : Va) (h : Hd), Lies w S a h → Lies w' S' a h := by
  intro a
  induction a using Va.ind with
  | h k n s l ks f hl hf =>
    intro h H
    simp only [Lies] at H ⊢
    obtain ⟨h1, h2, ⟨us, hr, hu⟩, ⟨vs, hr2, hv⟩⟩ := H
    refine ⟨h1, h2, ⟨us, hr.keep ?_ hk hS, LiesL_imp hu (fun x hx u => hl x hx u)⟩, ⟨vs, hr2.keep ?_ hk hS, LiesL_imp hv (fun x hx u => hf x hx u)⟩⟩
    · intro c hc
      obtain ⟨u, _, rfl⟩ := List.mem_map.1 hc
      simp [Hd.cells]
    · intro c hc
      obtain ⟨u, _, rfl⟩ := List.mem_map.1 hc
      simp [pcells]
theorem Lies.below {w w' : World} {S : Nat → Prop} {a : Va} {h : Hd} {B : Nat} (H : Lies w S a h) (hb : Below B w w') (hB : w.heap.size ≤ B) : Lies w' S a h :=
  Lies.keep (fun p _ hp => hb.cell (by omega)) (fun _ h _ => h) a h H
theorem add_pos (a : Addr) {n : Nat} (h : 0 < n) : a.add n = ⟨a.block, a.off + n, none⟩ := by unfold Addr.add; rw [if_neg (by omega)]
/-- The five cells at an address. -/
def At5 (w : World) (q : Addr) (u : Hd) : Prop := w.cell? q = some (.int .i64 u.k) ∧ w.cell? ⟨q.block, q.off + 1, none⟩ = some (.int .i64 u.n) ∧ w.cell? ⟨q.block, q.off + 2, none⟩ = some (.string u.s) ∧
  w.cell? ⟨q.block, q.off + 3, none⟩ = some (.slice u.A u.la u.lc) ∧ w.cell? ⟨q.block, q.off + 4, none⟩ = some (.slice u.F u.lf u.fc)
def At6 (w : World) (q : Addr) (key : ByteArray) (u : Hd) : Prop := w.cell? q = some (.string key) ∧ w.cell? ⟨q.block, q.off + 1, none⟩ = some (.int .i64 u.k) ∧ w.cell? ⟨q.block, q.off + 2, none⟩ = some (.int .i64 u.n) ∧ w.cell? ⟨q.block, q.off + 3, none⟩ = some (.string u.s) ∧
  w.cell? ⟨q.block, q.off + 4, none⟩ = some (.slice u.A u.la u.lc) ∧ w.cell? ⟨q.block, q.off + 5, none⟩ = some (.slice u.F u.lf u.fc)
theorem At5.of {w : World} {q : Addr} {u : Hd} (h : ∀ (j : Nat) c, u.cells[j]? = some c → w.cell? (q.add j) = some c) : At5 w q u := by
  refine ⟨?_, ?_, ?_, ?_, ?_⟩
  · have := h 0 _ rfl; simpa [Addr.add] using this
  · have := h 1 _ rfl; rwa [add_pos _ (by decide)] at this
  · have := h 2 _ rfl; rwa [add_pos _ (by decide)] at this
  · have := h 3 _ rfl; rwa [add_pos _ (by decide)] at this
  · have := h 4 _ rfl; rwa [add_pos _ (by decide)] at this
theorem At6.of {w : World} {q : Addr} {key : ByteArray} {u : Hd} (h : ∀ (j : Nat) c, (pcells (key, u))[j]? = some c → w.cell? (q.add j) = some c) : At6 w q key u := by
  refine ⟨?_, ?_, ?_, ?_, ?_, ?_⟩
  · have := h 0 _ rfl; simpa [Addr.add] using this
  · have := h 1 _ rfl; rwa [add_pos _ (by decide)] at this
  · have := h 2 _ rfl; rwa [add_pos _ (by decide)] at this
  · have := h 3 _ rfl; rwa [add_pos _ (by decide)] at this
  · have := h 4 _ rfl; rwa [add_pos _ (by decide)] at this
  · have := h 5 _ rfl; rwa [add_pos _ (by decide)] at this
theorem At5.below {w w' : World} {q : Addr} {u : Hd} {B : Nat} (h : At5 w q u) (hb : Below B w w') (hq : q.block < B) : At5 w' q u :=
  ⟨(hb.cell hq).trans h.1, (hb.cell (p := ⟨q.block, _, none⟩) hq).trans h.2.1, (hb.cell (p := ⟨q.block, _, none⟩) hq).trans h.2.2.1, (hb.cell (p := ⟨q.block, _, none⟩) hq).trans h.2.2.2.1, (hb.cell (p := ⟨q.block, _, none⟩) hq).trans h.2.2.2.2⟩
theorem At6.below {w w' : World} {q : Addr} {key : ByteArray} {u : Hd} {B : Nat} (h : At6 w q key u) (hb : Below B w w') (hq : q.block < B) : At6 w' q key u :=
  ⟨(hb.cell hq).trans h.1, (hb.cell (p := ⟨q.block, _, none⟩) hq).trans h.2.1, (hb.cell (p := ⟨q.block, _, none⟩) hq).trans h.2.2.1, (hb.cell (p := ⟨q.block, _, none⟩) hq).trans h.2.2.2.1, (hb.cell (p := ⟨q.block, _, none⟩) hq).trans h.2.2.2.2.1, (hb.cell (p := ⟨q.block, _, none⟩) hq).trans h.2.2.2.2.2⟩
/-- What stands of a value that lies in memory. -/
structure Op5 (w : World) (S : Nat → Prop) (l : List Va) (ks : List ByteArray) (f : List Va) (h : Hd) : Prop where
  L : ∀ (i : Nat) x, l[i]? = some x → ∃ ad u, h.A = some ad ∧ S ad.block ∧ (ad.add (i * 5)).block < w.heap.size ∧ Lies w S x u ∧ At5 w (ad.add (i * 5)) u
  K : ∀ (i : Nat) x, f[i]? = some x → ∃ ad u key, h.F = some ad ∧ S ad.block ∧ (ad.add (i * 6)).block < w.heap.size ∧ ks[i]? = some key ∧ key.size ≤ maxLen ∧ Lies w S x u ∧ At6 w (ad.add (i * 6)) key u
theorem Lies.op {w : World} {S : Nat → Prop} {k n : Int} {s : ByteArray} {l : List Va} {ks : List ByteArray} {f : List Va} {h : Hd} (H : Lies w S (.mk k n s l ks f) h) : Op5 w S l ks f h := by
  simp only [Lies] at H
  obtain ⟨⟨_, _, _, h4, h5, h6⟩, ⟨_, _, _, hks, _⟩, ⟨us, hr, hu⟩, ⟨vs, hr2, hv⟩⟩ := H
  constructor
  · intro i x hx
    obtain ⟨u, hui, hL⟩ := LiesL_at hu hx
    have hlt : i < us.length := (List.getElem?_eq_some_iff.1 hui).1
    obtain ⟨ad, e, hs, hc⟩ := hr (by simp; omega)
    have hc' := hc i u.cells (by simp [hui])
    have := World.block_lt_of_cell? w _ (hc' 0 _ rfl)
    rw [adb] at this
    exact ⟨ad, u, e, hs, by rw [adb]; exact this, hL, At5.of (fun j c hj => by rw [ada]; exact hc' j c hj)⟩
  · intro i x hx
    obtain ⟨u, hui, hL⟩ := LiesL_at hv hx
    have hlt : i < vs.length := (List.getElem?_eq_some_iff.1 hui).1
    have hl2 := LiesL_len hv
    obtain ⟨key, hkey⟩ : ∃ key, ks[i]? = some key := ⟨ks[i]'(by omega), List.getElem?_eq_getElem (by omega)⟩
    have hz : (ks.zip vs)[i]? = some (key, u) := List.getElem?_zip_eq_some.2 ⟨hkey, hui⟩
    have hlz : i < (ks.zip vs).length := (List.getElem?_eq_some_iff.1 hz).1
    obtain ⟨ad, e, hs, hc⟩ := hr2 (by rw [List.length_map]; omega)
    have hc' := hc i (pcells (key, u)) (by simp [hz])
    have := World.block_lt_of_cell? w _ (hc' 0 _ rfl)
    rw [adb] at this
    exact ⟨ad, u, key, e, hs, by rw [adb]; exact this, hkey, hks _ (List.mem_of_getElem? hkey), hL, At6.of (fun j c hj => by rw [ada]; exact hc' j c hj)⟩
/-- A value's box: the block that a call lays for its argument. -/
def BoxAt (w wr : World) (h : Hd) : Prop := Below w.heap.size w wr ∧ w.heap.size < wr.heap.size ∧ ∀ (j : Nat) c, h.cells[j]? = some c → wr.cell? ⟨w.heap.size, j, none⟩ = some c
theorem BoxAt.go {w wr wr' : World} {h : Hd} {B : Nat} (hb : BoxAt w wr h) (hB : Below B wr wr') (hle : wr.heap.size ≤ B) : BoxAt w wr' h :=
  ⟨hb.1.trans (hB.mono (by have := hb.2.1; omega)), by have := hB.size; have := hb.2.1; omega, fun j c hc => (hB.cell (p := ⟨w.heap.size, j, none⟩) (show w.heap.size < B from Nat.lt_of_lt_of_le hb.2.1 hle)).trans (hb.2.2 j c hc)⟩
theorem BoxAt.start (w : World) (h : Hd) (t : TypeId) : BoxAt w (w.alloc (Obj.cells #[.int .i64 h.k, .int .i64 h.n, .string h.s, .slice h.A h.la h.lc, .slice h.F h.lf h.fc] t)) h := by
  refine ⟨(Below.refl _ _).alloc (Nat.le_refl _) _, by simp, ?_⟩
  intro j c hc
  rw [World.cell?_alloc_new]
  rw [← hc]
  simp [Hd.cells]
/-- A box by its number. -/
def Bx (w : World) (N : Nat) (h : Hd) : Prop := N < w.heap.size ∧ ∀ (j : Nat) c, h.cells[j]? = some c → w.cell? ⟨N, j, none⟩ = some c
theorem Bx.go {w w' : World} {h : Hd} {N B : Nat} (hb : Bx w N h) (hB : Below B w w') (hle : N < B) : Bx w' N h :=
  ⟨by have := hB.size; have := hb.1; omega, fun j c hc => (hB.cell (p := ⟨N, j, none⟩) hle).trans (hb.2 j c hc)⟩
theorem Bx.alloc {w : World} {h : Hd} {N : Nat} (hb : Bx w N h) (o : Obj) : Bx (w.alloc o) N h := hb.go ((Below.refl w.heap.size w).alloc (Nat.le_refl _) o) hb.1
theorem Bx.start (w : World) (h : Hd) (t : TypeId) : Bx (w.alloc (Obj.cells #[.int .i64 h.k, .int .i64 h.n, .string h.s, .slice h.A h.la h.lc, .slice h.F h.lf h.fc] t)) w.heap.size h := by
  have := BoxAt.start w h t
  exact ⟨this.2.1, this.2.2⟩
theorem Bx.start' (w : World) (h : Hd) (t : TypeId) {N : Nat} (hN : N = w.heap.size) : Bx (w.alloc (Obj.cells #[.int .i64 h.k, .int .i64 h.n, .string h.s, .slice h.A h.la h.lc, .slice h.F h.lf h.fc] t)) N h := by
  subst hN
  exact Bx.start w h t
/-- Behind a block that was laid and a call that keeps what there was. -/
theorem after_alloc {wr w1 : World} {cs : Array Value} {t : TypeId} (hb : Below (wr.alloc (.cells cs t)).heap.size (wr.alloc (.cells cs t)) w1) :
    Below wr.heap.size wr w1 ∧ wr.heap.size < w1.heap.size ∧ ∀ (j : Nat) v, cs[j]? = some v → w1.cell? ⟨wr.heap.size, j, none⟩ = some v := by
  have hs := hb.size
  simp only [World.size_alloc] at hs hb
  refine ⟨((Below.refl _ _).alloc (Nat.le_refl _) _).trans (hb.mono (by omega)), by omega, fun j v hj => ?_⟩
  rw [hb.cell (p := ⟨wr.heap.size, j, none⟩) (by show wr.heap.size < wr.heap.size + 1; omega), World.cell?_alloc_new]
  exact hj
theorem bytes_ne {a b : ByteArray} (h : ¬ a = b) : (a.toList == b.toList) = false := by
  rw [Lib.toList_data, Lib.toList_data, Bool.eq_false_iff]
  intro e
  exact h (ByteArray.ext (Array.toList_inj.1 (eq_of_beq e)))
theorem bytes_eq {s t : ByteArray} (h : s = t) : (s.toList == t.toList) = true := by
  subst h; simp
end Go.Proofs.YtbinmhcjadkmgaaDoor
