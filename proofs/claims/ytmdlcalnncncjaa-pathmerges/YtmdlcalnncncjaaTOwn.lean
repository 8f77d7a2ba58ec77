/- Values in memory of one's own. -/
import Derived.Test.YtmdlcalnncncjaaTProgC
import Derived.Test.YtmdlcalnncncjaaTClone
import Derived.Deep.AppendLies
set_option linter.unusedVariables false
set_option linter.unusedSimpArgs false
namespace Go.Proofs.Ytmdlcalnncncjaa
open Go.RowKit
/-- What a call that keeps what there was keeps, as rules. -/
theorem keepers {X w1 : World} (hb : Below X.heap.size X w1) : (∀ b o : Nat, b < X.heap.size → w1.cell? ⟨b, o, none⟩ = X.cell? ⟨b, o, none⟩) ∧ (∀ b o : Nat, b < X.heap.size → w1.frozen? ⟨b, o, none⟩ = X.frozen? ⟨b, o, none⟩) ∧ X.heap.size ≤ w1.heap.size :=
  ⟨fun b o h => hb.cell (p := ⟨b, o, none⟩) h, fun b o h => hb.frozen (p := ⟨b, o, none⟩) h, hb.size⟩
/-- A value whose rows are all its own: S: the blocks of them. -/
inductive Own (w : World) : Va → (Nat → Prop) → Hd → Prop
  | mk {k n : Int} {s : ByteArray} {l : List Va} {ks : List ByteArray} {f : List Va} {S : Nat → Prop} {h : Hd} (us vs : List Hd) (SL SF : Nat → Nat → Prop)
      (hd : (h.k = k ∧ h.n = n ∧ h.s = s ∧ h.la = l.length ∧ h.lf = f.length ∧ ks.length = f.length) ∧
        ((-9223372036854775808 ≤ k ∧ k ≤ 9223372036854775807) ∧ (-9223372036854775808 ≤ n ∧ n ≤ 9223372036854775807) ∧ s.size ≤ maxLen ∧ (∀ x ∈ ks, x.size ≤ maxLen) ∧ l.length ≤ maxLen ∧ f.length ≤ maxLen ∧ l.length ≤ h.lc ∧ f.length ≤ h.fc))
      (ul : us.length = l.length) (vl : vs.length = f.length)
      (rl : w.ownsRow 0 25 5 (.slice h.A h.la h.lc) l.length (us.flatMap Hd.cells))
      (rf : w.ownsRow 0 36 6 (.slice h.F h.lf h.fc) f.length ((ks.zip vs).flatMap pcells))
      (hl : ∀ (i : Nat) x u, l[i]? = some x → us[i]? = some u → Own w x (SL i) u)
      (hf : ∀ (i : Nat) x u, f[i]? = some x → vs[i]? = some u → Own w x (SF i) u)
      (bl : ∀ g, (Value.slice h.A h.la h.lc).ownBlock = some g → S g ∧ (∀ i, ¬ SL i g) ∧ (∀ i, ¬ SF i g))
      (bf : ∀ g, (Value.slice h.F h.lf h.fc).ownBlock = some g → S g ∧ (∀ i, ¬ SL i g) ∧ (∀ i, ¬ SF i g) ∧ (Value.slice h.A h.la h.lc).ownBlock ≠ some g)
      (sl : ∀ i b, SL i b → S b) (sf : ∀ i b, SF i b → S b)
      (dl : ∀ i j b, SL i b → SL j b → i = j) (df : ∀ i j b, SF i b → SF j b → i = j) (dd : ∀ i j b, SL i b → SF j b → False) :
      Own w (.mk k n s l ks f) S h
theorem own_below {w w' : World} {base : Nat} {e : TypeId} {size : Nat} {v : Value} {n B : Nat} {xs : List Value} (h : w.ownsRow base e size v n xs) (hb : Below B w w') (hB : w.heap.size ≤ B) : w'.ownsRow base e size v n xs := by
  obtain ⟨h1, h2⟩ := h
  refine ⟨h1, ?_⟩
  rcases h2 with h2 | ⟨g, cap, cur, a, b, c, d⟩
  · exact .inl h2
  · have hg : g < w.heap.size := (Array.getElem?_eq_some_iff.1 c).1
    exact .inr ⟨g, cap, cur, a, b, by rw [hb.block g (by omega)]; exact c, d⟩
theorem own_block {w w' : World} {base : Nat} {e : TypeId} {size : Nat} {v : Value} {n : Nat} {xs : List Value} (h : w.ownsRow base e size v n xs) (hb : ∀ g, v.ownBlock = some g → w'.heap[g]? = w.heap[g]?) : w'.ownsRow base e size v n xs := by
  obtain ⟨h1, h2⟩ := h
  refine ⟨h1, ?_⟩
  rcases h2 with h2 | ⟨g, cap, cur, a, b, c, d⟩
  · exact .inl h2
  · exact .inr ⟨g, cap, cur, a, b, by rw [hb g (by rw [a]; rfl)]; exact c, d⟩
theorem own_base {w : World} {base base' : Nat} {e : TypeId} {size : Nat} {v : Value} {n : Nat} {xs : List Value} (h : w.ownsRow base e size v n xs) (hb : base' ≤ base) : w.ownsRow base' e size v n xs := by
  obtain ⟨h1, h2⟩ := h
  refine ⟨h1, ?_⟩
  rcases h2 with h2 | ⟨g, cap, cur, a, b, c, d⟩
  · exact .inl h2
  · exact .inr ⟨g, cap, cur, a, by omega, c, d⟩
theorem own_lo {w : World} {base : Nat} {e : TypeId} {size : Nat} {v : Value} {n : Nat} {xs : List Value} (h : w.ownsRow base e size v n xs) {g : Nat} (hg : v.ownBlock = some g) : base ≤ g ∧ g < w.heap.size := by
  rcases h.2 with ⟨rfl, _⟩ | ⟨g', cap, cur, a, b, c, d⟩
  · simp [Value.ownBlock] at hg
  · subst a
    simp [Value.ownBlock] at hg
    subst hg
    exact ⟨b, (Array.getElem?_eq_some_iff.1 c).1⟩
/-- Kept, if its blocks are. -/
theorem Own.keep {w w' : World} : ∀ (a : Va) (S : Nat → Prop) (h : Hd), Own w a S h → (∀ b, S b → w'.heap[b]? = w.heap[b]?) → Own w' a S h := by
  intro a
  induction a using Va.ind with
  | h k n s l ks f ihl ihf =>
    intro S h H hk
    cases H with
    | mk us vs SL SF hd ul vl rl rf hl hf bl bf sl sf dl df dd =>
      exact Own.mk us vs SL SF hd ul vl (own_block rl fun g hg => hk g (bl g hg).1) (own_block rf fun g hg => hk g (bf g hg).1)
        (fun i x u hx hu => ihl x (List.mem_of_getElem? hx) _ u (hl i x u hx hu) fun b hb => hk b (sl i b hb))
        (fun i x u hx hu => ihf x (List.mem_of_getElem? hx) _ u (hf i x u hx hu) fun b hb => hk b (sf i b hb)) bl bf sl sf dl df dd
theorem flat_at {α : Type} (fn : α → List Value) (size : Nat) : ∀ (us : List α), (∀ u ∈ us, (fn u).length = size) → ∀ (i : Nat) u, us[i]? = some u → ∀ (j : Nat) c, (fn u)[j]? = some c → (us.flatMap fn)[i * size + j]? = some c
  | [], _, i, u, h, _, _, _ => by simp at h
  | x :: r, hs, i, u, h, j, c, hc => by
    rw [List.flatMap_cons]
    cases i with
    | zero =>
      simp at h
      subst h
      rw [List.getElem?_append_left (by have := (List.getElem?_eq_some_iff.1 hc).1; omega)]
      simpa using hc
    | succ i =>
      have hx : (fn x).length = size := hs x (by simp)
      have e : (i + 1) * size = i * size + size := by rw [Nat.add_mul]; omega
      rw [List.getElem?_append_right (by omega), hx, (by omega : (i + 1) * size + j - size = i * size + j)]
      exact flat_at fn size r (fun u hu => hs u (by simp [hu])) i u (by simpa using h) j c hc
theorem cells_len (u : Hd) : u.cells.length = 5 := rfl
theorem pcells_len (p : ByteArray × Hd) : (pcells p).length = 6 := rfl
theorem row_of_own {α : Type} {w : World} {base : Nat} {e : TypeId} {size : Nat} {A : Option Addr} {n c : Nat} {S : Nat → Prop} (fn : α → List Value) (us : List α) (hs : ∀ u, (fn u).length = size) (h : w.ownsRow base e size (.slice A n c) n (us.flatMap fn)) (hb : ∀ g, (Value.slice A n c).ownBlock = some g → S g) (h0 : us = [] ∨ 0 < size) :
    RowAt w S size A (us.map fn) := by
  intro hp
  rcases h.2 with ⟨hv, hn⟩ | ⟨g, cap, cur, hv, _, hh, hle, _, hsz, ht⟩
  · exfalso
    have hz := h.1
    rw [hn, Nat.zero_mul] at hz
    rcases h0 with rfl | h0
    · simp at hp
    · cases us with
      | nil => simp at hp
      | cons u us =>
        have h3 := hs u
        rw [List.flatMap_cons, List.length_append] at hz
        omega
  · have e : A = some ⟨g, 0, none⟩ := by injection hv
    subst e
    refine ⟨_, rfl, hb g rfl, fun i cc hi j u hu => ?_⟩
    rw [List.getElem?_map, Option.map_eq_some_iff] at hi
    obtain ⟨x, hx, rfl⟩ := hi
    exact h.cells rfl _ u (flat_at fn size us (fun u _ => hs u) i x hx j u hu)
theorem Own.lies {w : World} : ∀ (a : Va) (S : Nat → Prop) (h : Hd), Own w a S h → Lies w S a h := by
  intro a
  induction a using Va.ind with
  | h k n s l ks f ihl ihf =>
    intro S h H
    cases H with
    | mk us vs SL SF hd ul vl rl rf hl hf bl bf sl sf dl df dd =>
      simp only [Lies]
      refine ⟨hd.1, hd.2, ⟨us, ?_, LiesL_mk ul fun i x u hx hu => ?_⟩, ⟨vs, ?_, LiesL_mk vl fun i x u hx hu => ?_⟩⟩
      · have := hd.1.2.2.2.1
        rw [← this] at rl
        exact row_of_own Hd.cells us cells_len rl (fun g hg => (bl g hg).1) (.inr (by decide))
      · exact Lies.keep (fun p _ _ => rfl) (fun b hb _ => sl i b hb) x u (ihl x (List.mem_of_getElem? hx) _ u (hl i x u hx hu))
      · have := hd.1.2.2.2.2.1
        rw [← this] at rf
        exact row_of_own pcells (ks.zip vs) pcells_len rf (fun g hg => (bf g hg).1) (.inr (by decide))
      · exact Lies.keep (fun p _ _ => rfl) (fun b hb _ => sf i b hb) x u (ihf x (List.mem_of_getElem? hx) _ u (hf i x u hx hu))
/-- A row that is being made: its elements so far. -/
structure Part (w : World) (lo : Nat) (v : Value) (l : List Va) (us : List Hd) (SL : Nat → Nat → Prop) : Prop where
  len : us.length = l.length
  own : ∀ (i : Nat) x u, l[i]? = some x → us[i]? = some u → Own w x (SL i) u
  rng : ∀ i b, SL i b → lo ≤ b ∧ b < w.heap.size
  dis : ∀ i j b, SL i b → SL j b → i = j
  off : ∀ i b, SL i b → v.ownBlock ≠ some b
  out : ∀ i b, l.length ≤ i → ¬ SL i b
theorem Part.start (w : World) (lo : Nat) (v : Value) : Part w lo v [] [] (fun _ _ => False) := ⟨rfl, fun i x u h => by simp at h, fun _ _ h => h.elim, fun _ _ _ h => h.elim, fun _ _ h => h.elim, fun _ _ _ h => h.elim⟩
/-- The next element: it lies in [mid, w'.heap.size), all else below mid; the row is the old one, or a new block. -/
theorem Part.step {w w' : World} {lo mid : Nat} {v v' : Value} {l : List Va} {us : List Hd} {SL : Nat → Nat → Prop} {x : Va} {u : Hd} {T : Nat → Prop} (h : Part w lo v l us SL) (hlo : lo ≤ mid) (hmid : w.heap.size ≤ mid)
    (hk : ∀ b, lo ≤ b → b < w.heap.size → v.ownBlock ≠ some b → w'.heap[b]? = w.heap[b]?) (hsz : w.heap.size ≤ w'.heap.size) (hx : Own w' x T u) (hT : ∀ b, T b → mid ≤ b ∧ b < w'.heap.size) (hvT : ∀ b, T b → v'.ownBlock ≠ some b)
    (hv : ∀ b, lo ≤ b → b < w.heap.size → v'.ownBlock = some b → v.ownBlock = some b) :
    Part w' lo v' (l ++ [x]) (us ++ [u]) (fun i b => if i = l.length then T b else SL i b) := by
  constructor
  · simp [h.len]
  · intro i y z hy hz
    by_cases e : i = l.length
    · subst e
      simp at hy
      have : z = u := by rw [← h.len] at hz; simpa using hz.symm
      subst this hy
      simpa using hx
    · have hi : i < l.length := by
        have := (List.getElem?_eq_some_iff.1 hy).1
        simp at this
        omega
      simp only [e, if_false]
      rw [List.getElem?_append_left hi] at hy
      rw [List.getElem?_append_left (by have := h.len; omega)] at hz
      exact Own.keep y _ z (h.own i y z hy hz) fun b hb => hk b (h.rng i b hb).1 (h.rng i b hb).2 (h.off i b hb)
  · intro i b hb
    by_cases e : i = l.length
    · simp only [e, if_true] at hb
      have := hT b hb
      omega
    · simp only [e, if_false] at hb
      have := h.rng i b hb
      omega
  · intro i j b hi hj
    by_cases e1 : i = l.length <;> by_cases e2 : j = l.length
    · omega
    · simp only [e1, e2, if_true, if_false] at hi hj
      have := hT b hi
      have := h.rng j b hj
      omega
    · simp only [e1, e2, if_true, if_false] at hi hj
      have := hT b hj
      have := h.rng i b hi
      omega
    · simp only [e1, e2, if_false] at hi hj
      exact h.dis i j b hi hj
  · intro i b hb
    by_cases e : i = l.length
    · simp only [e, if_true] at hb
      exact hvT b hb
    · simp only [e, if_false] at hb
      intro hb2
      exact h.off i b hb (hv b (h.rng i b hb).1 (h.rng i b hb).2 hb2)
  · intro i b hi hb
    simp at hi
    rw [if_neg (by omega)] at hb
    exact h.out i b (by omega) hb
end Go.Proofs.Ytmdlcalnncncjaa
