/- The reference's Put. -/
import Derived.Test.YtmdlcalnncncjaaPRep
import Derived.Test.YtmdlcalnncncjaaPFind
set_option linter.unusedVariables false
set_option linter.unusedSimpArgs false
namespace Go.Proofs.Ytmdlcalnncncjaa
open Go.RowKit
/-- A row that is being made in the value of block O; its elements may be new. -/
structure LoopZ {α : Type} (fn : α → List Value) (hd : α → Hd) (ty : TypeId) (size : Nat) (rw : Option Addr → Nat → Nat → Hd) (wd : World) (O : Nat) (S : Nat → Prop) (l : List Va) (i : Nat) (wr : World) (us : List α) (A' : Option Addr) (c' : Nat) : Prop where
  kp : Kp O wd wr
  row : wr.rowIs O 25 5 (hdAt (rw A' i c'))
  own : wr.ownsRow wd.heap.size ty size (.slice A' i c') i (us.flatMap fn)
  len : us.length = i
  lies : ∀ (j : Nat) y u, l[j]? = some y → us[j]? = some u → Lies wr (fun b => (S b ∨ wd.heap.size ≤ b) ∧ b < wr.heap.size ∧ (Value.slice A' i c').ownBlock ≠ some b) y (hd u)
theorem LoopZ.step {α : Type} {fn : α → List Value} {hd : α → Hd} {ty : TypeId} {size : Nat} {rw : Option Addr → Nat → Nat → Hd} {wd wr wq w3 : World} {O i g cap c0 : Nat} {S : Nat → Prop} {l : List Va} {us : List α} {A' : Option Addr} {c' : Nat} {y : Va} {u : α}
    (H : LoopZ fn hd ty size rw wd O S l i wr us A' c') (hO : O < wd.heap.size) (hSO : ∀ b, S b → b < O)
    (hrw : ∀ W : World, W.rowIs O 25 5 (hdAt (rw A' i c')) → (W.setCell ⟨O, c0, none⟩ (.slice (some ⟨g, 0, none⟩) (i + 1) cap)).rowIs O 25 5 (hdAt (rw (some ⟨g, 0, none⟩) (i + 1) cap)))
    (hy : l[i]? = some y) (hbq : Below wr.heap.size wr wq) (hLu : Lies wq (fun b => (S b ∨ wd.heap.size ≤ b) ∧ b < wq.heap.size ∧ (Value.slice A' i c').ownBlock ≠ some b) y (hd u))
    (hown3 : w3.ownsRow wd.heap.size ty size (.slice (some ⟨g, 0, none⟩) (i + 1) cap) (i + 1) (us.flatMap fn ++ fn u)) (hgrow : wq.grownBy w3 (Value.slice A' i c').ownBlock)
    (hat : (Value.slice A' i c').ownBlock = some g ∨ g = wq.heap.size) :
    LoopZ fn hd ty size rw wd O S l (i + 1) (w3.setCell ⟨O, c0, none⟩ (.slice (some ⟨g, 0, none⟩) (i + 1) cap)) (us ++ [u]) (some ⟨g, 0, none⟩) cap := by
  have hkr := H.kp.size
  have hq := hbq.size
  have hg3 := hgrow.size
  have hrow : ∀ b, (Value.slice A' i c').ownBlock = some b → wd.heap.size ≤ b ∧ b < wr.heap.size := fun b hb => own_lo H.own hb
  have blq : ∀ b, b < wq.heap.size → (Value.slice A' i c').ownBlock ≠ some b → w3.heap[b]? = wq.heap[b]? := fun b h1 h2 => hgrow.block b h1 (fun e => h2 e.symm)
  have blk : ∀ b, b < wr.heap.size → (Value.slice A' i c').ownBlock ≠ some b → w3.heap[b]? = wr.heap[b]? := fun b h1 h2 => by
    rw [blq b (by omega) h2, hbq.block b h1]
  have hOn : (Value.slice A' i c').ownBlock ≠ some O := fun e => by have := hrow O e; omega
  have hgO : g ≠ O := by
    rcases hat with e | e
    · have := hrow g e; omega
    · omega
  have hgn : ∀ b, b < wq.heap.size → (Value.slice A' i c').ownBlock ≠ some b → g ≠ b := fun b h1 h2 e => by
    rcases hat with e2 | e2
    · exact h2 (by rw [e2, e])
    · omega
  have hbO : ∀ b, S b ∨ wd.heap.size ≤ b → b ≠ O := fun b hb => by
    rcases hb with hb | hb
    · have := hSO b hb; omega
    · omega
  refine ⟨?_, ?_, ?_, ?_, ?_⟩
  · refine Kp.setN ⟨?_, by omega, fun k h1 h2 => ?_⟩ _
    · exact (H.kp.bel.trans (hbq.mono (by omega))).grown hgrow (by omega) (fun k hk => by have := hrow k hk; omega)
    · rw [blk k (by omega) (fun e => by have := hrow k e; omega)]
      exact H.kp.block k h1 h2
  · exact hrw _ (rowIs_below' (B := 0) H.row (blk O (by omega) hOn))
  · rw [List.flatMap_append]
    refine own_block (v := .slice (some ⟨g, 0, none⟩) (i + 1) cap) (w := w3) ?_ fun b hb => Below.heap_setCell _ _ _ _ ?_
    · simpa using hown3
    · simp only [Value.ownBlock, Option.some.injEq] at hb
      show b ≠ O
      omega
  · simp [H.len]
  · intro j y' u' hy' hu'
    by_cases e : j < i
    · rw [List.getElem?_append_left (by rw [H.len]; exact e)] at hu'
      refine Lies.keep (fun p hp hl => World.cell?_of_block ((Below.heap_setCell _ _ _ _ (hbO _ hp.1)).trans (blk _ hp.2.1 hp.2.2))) (fun b hb hl => ⟨hb.1, ?_, ?_⟩) _ _ (H.lies j y' u' hy' hu')
      · have := hb.2.1; simp; omega
      · intro e2
        injection e2 with e2
        exact hgn b (by have := hb.2.1; omega) hb.2.2 e2
    · have hj : j < (us ++ [u]).length := (List.getElem?_eq_some_iff.1 hu').1
      simp [H.len] at hj
      obtain rfl : j = i := by omega
      rw [List.getElem?_append_right (by rw [H.len]; exact Nat.le_refl _), H.len] at hu'
      simp at hu'
      subst hu'
      rw [hy] at hy'
      cases hy'
      refine Lies.keep (fun p hp hl => World.cell?_of_block ((Below.heap_setCell _ _ _ _ (hbO _ hp.1)).trans (blq _ hp.2.1 hp.2.2))) (fun b hb hl => ⟨hb.1, ?_, ?_⟩) _ _ hLu
      · have := hb.2.1; simp; omega
      · intro e2
        injection e2 with e2
        exact hgn b (by have := hb.2.1; omega) hb.2.2 e2
theorem setc3 {k0 : Int} {O g i n cap c' : Nat} {A' : Option Addr} : ∀ W : World, W.rowIs O 25 5 (hdAt ⟨k0, 0, ByteArray.empty, A', i, c', none, 0, 0⟩) → (W.setCell ⟨O, 3, none⟩ (.slice (some ⟨g, 0, none⟩) n cap)).rowIs O 25 5 (hdAt ⟨k0, 0, ByteArray.empty, some ⟨g, 0, none⟩, n, cap, none, 0, 0⟩) := fun W H => by
  refine (H.set 3 _).congr (fun j hj => ?_)
  match j, hj with
  | 0, _ => rfl
  | 1, _ => rfl
  | 2, _ => rfl
  | 3, _ => rfl
  | 4, _ => rfl
theorem setc4 {k0 : Int} {O g i n cap c' : Nat} {A' : Option Addr} : ∀ W : World, W.rowIs O 25 5 (hdAt ⟨k0, 0, ByteArray.empty, none, 0, 0, A', i, c'⟩) → (W.setCell ⟨O, 4, none⟩ (.slice (some ⟨g, 0, none⟩) n cap)).rowIs O 25 5 (hdAt ⟨k0, 0, ByteArray.empty, none, 0, 0, some ⟨g, 0, none⟩, n, cap⟩) := fun W H => by
  refine (H.set 4 _).congr (fun j hj => ?_)
  match j, hj with
  | 0, _ => rfl
  | 1, _ => rfl
  | 2, _ => rfl
  | 3, _ => rfl
  | 4, _ => rfl
abbrev LoopZL (k0 : Int) := LoopZ Hd.cells id 25 5 (fun A i c => ⟨k0, 0, ByteArray.empty, A, i, c, none, 0, 0⟩)
abbrev LoopZF (k0 : Int) := LoopZ pcells Prod.snd 36 6 (fun A i c => ⟨k0, 0, ByteArray.empty, none, 0, 0, A, i, c⟩)
theorem zip_back {α β : Type} : ∀ us : List (α × β), (us.map Prod.fst).zip (us.map Prod.snd) = us
  | [] => rfl
  | (a, b) :: r => by simp [zip_back r]
theorem own_capZ {w : World} {base : Nat} {e : TypeId} {size : Nat} {A : Option Addr} {n c : Nat} {xs : List Value} (h : w.ownsRow base e size (.slice A n c) n xs) : n ≤ c := by
  rcases h.2 with ⟨e, h0⟩ | ⟨g, cap, cur, hv, _, _, hle, _⟩
  · omega
  · injection hv with _ _ h3; omega
theorem LoopZ.doneL {wd wr wf : World} {O n B : Nat} {k0 : Int} {l : List Va} {S : Nat → Prop} {us : List Hd} {A' : Option Addr} {c' : Nat} (H : LoopZL k0 wd O S l n wr us A' c') (hn : n = l.length) (hlm : l.length ≤ maxLen) (hk0 : -9223372036854775808 ≤ k0 ∧ k0 ≤ 9223372036854775807)
    (hB : B ≤ wd.heap.size) (hblk : ∀ b, b < wr.heap.size → (S b ∨ wd.heap.size ≤ b) → wf.heap[b]? = wr.heap[b]?) : Lies wf (fun b => S b ∨ B ≤ b) (.mk k0 0 ByteArray.empty l [] []) ⟨k0, 0, ByteArray.empty, A', n, c', none, 0, 0⟩ := by
  subst hn
  have own := H.own
  have cap := own_capZ own
  unfold Lies
  refine ⟨⟨rfl, rfl, rfl, rfl, rfl, rfl⟩, ⟨hk0, by decide, by decide, by simp, hlm, by decide, cap, Nat.le_refl _⟩, ⟨us, ?_, LiesL_mk H.len fun i y u hy hu => ?_⟩, ⟨[], fun h => by simp at h, by unfold LiesL; rfl⟩⟩
  · have own2 : wf.ownsRow wd.heap.size 25 5 (.slice A' l.length c') l.length (us.flatMap Hd.cells) := own_block own fun g hg => hblk g (own_lo own hg).2 (.inr (own_lo own hg).1)
    exact row_of_own Hd.cells us cells_len own2 (fun g hg => .inr (by have := (own_lo own hg).1; omega)) (.inr (by decide))
  · refine Lies.keep (fun p hp hlt => World.cell?_of_block (hblk p.block hlt hp.1)) (fun b hb _ => ?_) y u (H.lies i y u hy hu)
    rcases hb.1 with h | h
    · exact .inl h
    · exact .inr (by omega)
theorem LoopZ.doneF {wd wr wf : World} {O n B : Nat} {k0 : Int} {ks : List ByteArray} {l : List Va} {S : Nat → Prop} {us : List (ByteArray × Hd)} {A' : Option Addr} {c' : Nat} (H : LoopZF k0 wd O S l n wr us A' c') (hn : n = l.length) (hus : us.map Prod.fst = ks) (hkm : ∀ x ∈ ks, x.size ≤ maxLen) (hlm : l.length ≤ maxLen) (hk0 : -9223372036854775808 ≤ k0 ∧ k0 ≤ 9223372036854775807)
    (hB : B ≤ wd.heap.size) (hblk : ∀ b, b < wr.heap.size → (S b ∨ wd.heap.size ≤ b) → wf.heap[b]? = wr.heap[b]?) : Lies wf (fun b => S b ∨ B ≤ b) (.mk k0 0 ByteArray.empty [] ks l) ⟨k0, 0, ByteArray.empty, none, 0, 0, A', n, c'⟩ := by
  subst hn hus
  have own := H.own
  have cap := own_capZ own
  unfold Lies
  refine ⟨⟨rfl, rfl, rfl, rfl, rfl, by simp [H.len]⟩, ⟨hk0, by decide, by decide, hkm, by decide, hlm, Nat.le_refl _, cap⟩, ⟨[], fun h => by simp at h, by unfold LiesL; rfl⟩, ⟨us.map Prod.snd, ?_, LiesL_mk (by simp [H.len]) fun i y u hy hu => ?_⟩⟩
  · have own2 : wf.ownsRow wd.heap.size 36 6 (.slice A' l.length c') l.length (us.flatMap pcells) := own_block own fun g hg => hblk g (own_lo own hg).2 (.inr (own_lo own hg).1)
    rw [zip_back]
    exact row_of_own pcells us pcells_len own2 (fun g hg => .inr (by have := (own_lo own hg).1; omega)) (.inr (by decide))
  · rw [List.getElem?_map, Option.map_eq_some_iff] at hu
    obtain ⟨q, hq, rfl⟩ := hu
    refine Lies.keep (fun p hp hlt => World.cell?_of_block (hblk p.block hlt hp.1)) (fun b hb _ => ?_) y q.2 (H.lies i y q hy hq)
    rcases hb.1 with h | h
    · exact .inl h
    · exact .inr (by omega)
def ldY : Op := Op.load 25 (Operand.tmp 10)
/-- The five cells of a box. -/
abbrev X5 (M : Nat) (x : Hd) (w : World) : Prop := w.cell? ⟨M, 0, none⟩ = some (.int .i64 x.k) ∧ w.cell? ⟨M, 1, none⟩ = some (.int .i64 x.n) ∧ w.cell? ⟨M, 2, none⟩ = some (.string x.s) ∧ w.cell? ⟨M, 3, none⟩ = some (.slice x.A x.la x.lc) ∧ w.cell? ⟨M, 4, none⟩ = some (.slice x.F x.lf x.fc)
theorem X5.blk {M : Nat} {x : Hd} {w w' : World} (h : X5 M x w) (hM : w'.heap[M]? = w.heap[M]?) : X5 M x w' :=
  ⟨(World.cell?_of_block (a := ⟨M, 0, none⟩) hM).trans h.1, (World.cell?_of_block (a := ⟨M, 1, none⟩) hM).trans h.2.1, (World.cell?_of_block (a := ⟨M, 2, none⟩) hM).trans h.2.2.1, (World.cell?_of_block (a := ⟨M, 3, none⟩) hM).trans h.2.2.2.1, (World.cell?_of_block (a := ⟨M, 4, none⟩) hM).trans h.2.2.2.2⟩
theorem liesY {S : Nat → Prop} {wr wy w5 wq : World} {Z : Nat} {own : Option Nat} {y : Va} {h' : Hd} (hl : Lies w5 (fun b => S b ∨ wy.heap.size ≤ b) y h') (hs : wy.heap.size = wr.heap.size + 1) (hq : w5.heap.size ≤ wq.heap.size) (hZ : Z ≤ wr.heap.size) (hSZ : ∀ b, S b → b < Z) (hown : ∀ b, own = some b → Z ≤ b ∧ b < wr.heap.size)
    (hblk : ∀ b, b < w5.heap.size → b ≠ wr.heap.size → wq.heap[b]? = w5.heap[b]?) : Lies wq (fun b => (S b ∨ Z ≤ b) ∧ b < wq.heap.size ∧ own ≠ some b) y h' := by
  have hne : ∀ b, S b ∨ wy.heap.size ≤ b → b ≠ wr.heap.size := fun b hb => by
    rcases hb with hb | hb
    · have := hSZ b hb; omega
    · omega
  refine Lies.keep (fun q hq1 hl1 => World.cell?_of_block (hblk _ hl1 (hne _ hq1))) (fun b hb hl1 => ⟨?_, by omega, fun e => ?_⟩) _ _ hl
  · rcases hb with hb | hb
    · exact .inl hb
    · exact .inr (by omega)
  · have h1 := hown b e
    rcases hb with hb | hb
    · have := hSZ b hb; omega
    · omega
def ldQ : Op := Op.load 25 (Operand.tmp 66)
def prAt (q : ByteArray × Hd) (j : Nat) : Value := (pcells q).getD j undef
theorem prAt_row {w : World} {N : Nat} {key : ByteArray} {u : Hd} (H : w.heap[N]? = some (.cells #[.string key, .int .i64 u.k, .int .i64 u.n, .string u.s, .slice u.A u.la u.lc, .slice u.F u.lf u.fc] 36)) : w.rowIs N 36 6 (prAt (key, u)) := by
  refine ⟨_, H, rfl, fun i hi => ?_⟩
  match i, hi with
  | 0, _ => rfl
  | 1, _ => rfl
  | 2, _ => rfl
  | 3, _ => rfl
  | 4, _ => rfl
  | 5, _ => rfl
abbrev resP (W : World) (R : Nat) (u : Hd) : World := (((((W.setCell ⟨R, 1, none⟩ (.int .i64 u.k)).setCell ⟨R, 2, none⟩ (.int .i64 u.n)).setCell ⟨R, 3, none⟩ (.string u.s)).setCell ⟨R, 4, none⟩ (.slice u.A u.la u.lc)).setCell ⟨R, 5, none⟩ (.slice u.F u.lf u.fc))
theorem resP_set {W : World} {R : Nat} {u : Hd} (b : Nat) (h : b ≠ R) : (resP W R u).heap[b]? = W.heap[b]? := by
  unfold resP
  rw [Below.heap_setCell _ _ _ _ h, Below.heap_setCell _ _ _ _ h, Below.heap_setCell _ _ _ _ h, Below.heap_setCell _ _ _ _ h, Below.heap_setCell _ _ _ _ h]
theorem resP_below {B R : Nat} {w w' : World} {u : Hd} (h : Below B w w') (hg : B ≤ R) : Below B w (resP w' R u) := ((((h.setCell hg _).setCell hg _).setCell hg _).setCell hg _).setCell hg _
theorem resP_row {W : World} {R : Nat} {key : ByteArray} {v u : Hd} (H : W.rowIs R 36 6 (prAt (key, v))) : (resP W R u).rowIs R 36 6 (prAt (key, u)) := by
  refine (((((H.set 1 _).set 2 _).set 3 _).set 4 _).set 5 _).congr (fun j hj => ?_)
  match j, hj with
  | 0, _ => rfl
  | 1, _ => rfl
  | 2, _ => rfl
  | 3, _ => rfl
  | 4, _ => rfl
  | 5, _ => rfl
theorem fst_next {ks : List ByteArray} {us : List (ByteArray × Hd)} {j : Nat} {key : ByteArray} {u : Hd} (h : us.map Prod.fst = ks.take j) (hk : ks[j]? = some key) : (us ++ [(key, u)]).map Prod.fst = ks.take (j + 1) := by
  rw [List.map_append, h, take_next hk]
  rfl
theorem resW_row {W : World} {R : Nat} {f : Nat → Value} {u : Hd} (H : W.rowIs R 25 5 f) : (((((W.setCell ⟨R, 0, none⟩ (.int .i64 u.k)).setCell ⟨R, 1, none⟩ (.int .i64 u.n)).setCell ⟨R, 2, none⟩ (.string u.s)).setCell ⟨R, 3, none⟩ (.slice u.A u.la u.lc)).setCell ⟨R, 4, none⟩ (.slice u.F u.lf u.fc)).rowIs R 25 5 (hdAt u) := by
  refine (((((H.set 0 _).set 1 _).set 2 _).set 3 _).set 4 _).congr (fun j hj => ?_)
  match j, hj with
  | 0, _ => rfl
  | 1, _ => rfl
  | 2, _ => rfl
  | 3, _ => rfl
  | 4, _ => rfl
theorem news_one {W : World} {N : Nat} (cs : Array Value) (t : TypeId) (hs : W.heap.size = N) : ∀ (j : Nat) u, cs.toList[j]? = some u → (W.alloc (.cells cs t)).cell? ((⟨N, 0, none⟩ : Addr).add j) = some u := by
  subst hs
  exact World.news_of_block (heap_alloc_new W _)
set_option maxHeartbeats 16000000 in
set_option maxRecDepth 100000 in
theorem put_ref (S : Nat → Prop) (x : Va) (hx : Hd) (p : List St) : ∀ (a : Va) (h : Hd) (w : World) (A : Option Addr) (m c d : Nat), (∀ b, S b → b < w.heap.size) → Lies w S a h → Lies w S x hx → PathAt w A p → (∀ s ∈ p, StR s) → m = p.length → m ≤ c → m ≤ 1000 → a.cnt ≤ 1000 → a.R d → (goV a p).isSome = true →
    Calls Try.prog 113 #[h.val, .slice A m c, hx.val] w fun e w' => RepR S (putV a p x) w e w' := by
  obtain ⟨i0, hi0, hz0, hz1, hz2⟩ := info_parts info25
  obtain ⟨i6, hj0, hy0, hy1, hy2⟩ := info_parts info36
  induction p with
  | nil =>
    intro a h w A m c d hSb H HX hA hR hm hc hp hcn hrd hgo
    obtain rfl : m = 0 := hm
    have HXX := Lib.hid HX
    have HB3 := Lib.hid (three_allocs w (Obj.cells #[.int .i64 h.k, .int .i64 h.n, .string h.s, .slice h.A h.la h.lc, .slice h.F h.lf h.fc] 25) (Obj.cells #[.int .i64 hx.k, .int .i64 hx.n, .string hx.s, .slice hx.A hx.la hx.lc, .slice hx.F hx.lf hx.fc] 25) (Obj.cells #[.int .i64 hx.k, .int .i64 hx.n, .string hx.s, .slice hx.A hx.la hx.lc, .slice hx.F hx.lf hx.fc] 25))
    have hpv : putV a [] x = x := by cases a; rfl
    rw [hpv]
    clear H HX hA hR hc hp hcn hrd hgo hSb hpv
    unfold Hd.val at *
    go_enter Try.func113, Try.ntmps113
    go_wp2_with fail
    refine bodyPost_ret (v := .agg #[.int .i64 hx.k, .int .i64 hx.n, .string hx.s, .slice hx.A hx.la hx.lc, .slice hx.F hx.lf hx.fc]) (by simp [results, Try.results113, go_sem]; try rfl) rfl ?_
    exact ⟨hx, rfl, Lies.keep (fun q _ hq => HB3.out.cell hq) (fun b hb _ => .inl hb) _ _ HXX.out, HB3.out⟩
  | cons s p ih =>
    intro a h w A m c d hSb H HX hA hR hm hc hp hcn hrd hgo
    obtain ⟨ad, rfl, hbl, hat, hok⟩ := hA 0 s rfl
    have e0 : ad.add (0 * 3) = ad := by simp [Addr.add]
    rw [e0] at hat hbl
    have HSR := Lib.hid (hR s (by simp))
    have HTL := Lib.hid hA.tail
    have hm1 : m = p.length + 1 := by simpa using hm
    have HPL := Lib.hid hm1
    have HSb := Lib.hid hSb
    have hm0i : (1 : Int) ≤ (m : Int) := by omega
    have hm0j : (0 : Int) < (m : Int) := by omega
    have hm0k : 0 < m := by omega
    have hm00 : ((m : Int) == 0) = false := by simp; omega
    by_cases hc1 : c = 1
    · subst hc1
      obtain rfl : m = 1 := by omega
      obtain ⟨k, n, t, l, ks, f⟩ := a
      obtain ⟨bb, hbb⟩ := Option.isSome_iff_exists.1 hgo
      obtain ⟨i, y, hsi, hyL, hyF, hgy⟩ := goV_cons hbb
      have HGY : Hid ((goV y p).isSome = true) := Lib.hid (by rw [hgy]; rfl)
      have IH := Lib.hid (fun (y : Va) (u : Hd) (W : World) (A' : Option Addr) (m' c' : Nat) (h0 : ∀ b, S b → b < W.heap.size) (h1 : Lies W S y u) (h2 : Lies W S x hx) (h3 : PathAt W A' p) (h4 : m' = p.length) (h5 : m' ≤ c') (h6 : y.cnt ≤ 1000) (h8 : y.R (d - 1)) (h7 : (goV y p).isSome = true) => ih y u W A' m' c' (d - 1) h0 h1 h2 h3 (fun t ht => hR t (by simp [ht])) h4 h5 (by omega) h6 h8 h7)
      have HH := Lib.hid H
      have HXX := Lib.hid HX
      simp only [Lies] at H
      obtain ⟨⟨e1, e2, e3, e4, e5, e6⟩, -, -⟩ := H
      obtain ⟨hk, hnn, hss, HA, la, lc, F, lf, fc⟩ := h
      simp only at e1 e4 e5
      subst e1 e4
      have hlf : lf = f.length := e5
      subst hlf
      have HE6 := Lib.hid e6
      have HCN := Lib.hid hcn
      have hll : l.length ≤ 1000 := by have := len_le_cntL l; simp only [Va.cnt] at hcn; omega
      have hfl : f.length ≤ 1000 := by have := len_le_cntL f; simp only [Va.cnt] at hcn; omega
      have HRD := Lib.hid hrd
      have HLT := Lib.hid (subI_lt e6 HSR.out hsi)
      have HSI := Lib.hid hsi
      unfold Hd.val at *
      simp only
      -- the world behind the three blocks
      obtain ⟨wd, hwd⟩ : ∃ wd, wd = ((w.alloc (Obj.cells #[.int .i64 hk, .int .i64 hnn, .string hss, .slice HA l.length lc, .slice F f.length fc] 25)).alloc (Obj.cells #[.int .i64 hx.k, .int .i64 hx.n, .string hx.s, .slice hx.A hx.la hx.lc, .slice hx.F hx.lf hx.fc] 25)).alloc (Obj.cells #[.int .i64 0, .int .i64 0, .string { data := #[] }, .slice none 0 0, .slice none 0 0] 25) := ⟨_, rfl⟩
      have hb2 : Below w.heap.size w wd := by rw [hwd]; exact three_allocs _ _ _ _
      have hsz : wd.heap.size = w.heap.size + 3 := by rw [hwd]; simp
      have hbox : wd.rowIs w.heap.size 25 5 (hdAt ⟨hk, hnn, hss, HA, l.length, lc, F, f.length, fc⟩) := by
        rw [hwd]
        refine hdAt_row ?_
        rw [Below.heap_alloc _ _ _ (by simp; omega), Below.heap_alloc _ _ _ (by simp)]
        exact heap_alloc_new _ _
      have hbxx : wd.rowIs (w.heap.size + 1) 25 5 (hdAt hx) := by
        rw [hwd]
        refine hdAt_row ?_
        rw [Below.heap_alloc _ _ _ (by simp)]
        have h9 := heap_alloc_new (w.alloc (Obj.cells #[.int .i64 hk, .int .i64 hnn, .string hss, .slice HA l.length lc, .slice F f.length fc] 25)) (Obj.cells #[.int .i64 hx.k, .int .i64 hx.n, .string hx.s, .slice hx.A hx.la hx.lc, .slice hx.F hx.lf hx.fc] 25)
        rwa [World.size_alloc] at h9
      have hres : wd.rowIs (w.heap.size + 1 + 1) 25 5 zeroRes := by
        rw [hwd]
        refine hdAt_row (h := zeroHd) ?_
        have h9 := heap_alloc_new ((w.alloc (Obj.cells #[.int .i64 hk, .int .i64 hnn, .string hss, .slice HA l.length lc, .slice F f.length fc] 25)).alloc (Obj.cells #[.int .i64 hx.k, .int .i64 hx.n, .string hx.s, .slice hx.A hx.la hx.lc, .slice hx.F hx.lf hx.fc] 25)) (Obj.cells #[.int .i64 0, .int .i64 0, .string { data := #[] }, .slice none 0 0, .slice none 0 0] 25)
        rwa [World.size_alloc, World.size_alloc] at h9
      have HWD := Lib.hid hwd
      clear hA hR e2 e3 e5 e6 hok e0 hcn hm hm1 ih hgo hbb hwd hSb HX hgy
      go_enter Try.func113, Try.ntmps113
      go_wp2_with fail
      rw [← HWD.out]
      clear HWD
      obtain ⟨q0, q1, q2⟩ := hat.below hb2 hbl
      have hbld : ad.block < wd.heap.size := by omega
      have hNd : w.heap.size < wd.heap.size := by omega
      have b0 := hbox.cell (show 0 < 5 by decide)
      have b1 := hbox.cell (show 1 < 5 by decide)
      have b2 := hbox.cell (show 2 < 5 by decide)
      have b3 := hbox.cell (show 3 < 5 by decide)
      have b4 := hbox.cell (show 4 < 5 by decide)
      simp only [hdAt, Hd.cells, List.getD_cons_succ, List.getD_cons_zero] at b0 b1 b2 b3 b4
      have Q0 : ∀ x : BlwBy wd, x.now.cell? ad = some (.string s.k) := fun x => x.cellA hbld q0
      have Q1 : ∀ x : BlwBy wd, x.now.cell? ⟨ad.block, ad.off + 1, none⟩ = some (.int .i64 s.a) := fun x => x.cellA (a := ⟨ad.block, ad.off + 1, none⟩) hbld q1
      have Q2 : ∀ x : BlwBy wd, x.now.cell? ⟨ad.block, ad.off + 2, none⟩ = some (.bool s.i) := fun x => x.cellA (a := ⟨ad.block, ad.off + 2, none⟩) hbld q2
      have B0 : ∀ x : BlwBy wd, x.now.cell? ⟨w.heap.size, 0, none⟩ = some (.int .i64 hk) := fun x => x.cell hNd b0
      have B1 : ∀ x : BlwBy wd, x.now.cell? ⟨w.heap.size, 1, none⟩ = some (.int .i64 hnn) := fun x => x.cell hNd b1
      have B2 : ∀ x : BlwBy wd, x.now.cell? ⟨w.heap.size, 2, none⟩ = some (.string hss) := fun x => x.cell hNd b2
      have B3 : ∀ x : BlwBy wd, x.now.cell? ⟨w.heap.size, 3, none⟩ = some (.slice HA l.length lc) := fun x => x.cell hNd b3
      have B4 : ∀ x : BlwBy wd, x.now.cell? ⟨w.heap.size, 4, none⟩ = some (.slice F f.length fc) := fun x => x.cell hNd b4
      have HHd := Lib.hid (HH.out.below hb2 (Nat.le_refl _))
      have KM : Hid (∀ x : BlwBy wd, Calls Try.prog 87 #[.agg #[.int .i64 hk, .int .i64 hnn, .string hss, .slice HA l.length lc, .slice F f.length fc], .agg #[.string s.k, .int .i64 s.a, .bool s.i]] x.now fun e w'' => e = .returned (.int .i64 (mI (subI (.mk hk n t l ks f) s))) ∧ ∃ q : BlwBy wd, w'' = q.now) := Lib.hid (fun x => Calls.below_of (next_ref (.mk hk n t l ks f) S ⟨hk, hnn, hss, HA, l.length, lc, F, f.length, fc⟩ x.now s (HHd.out.below x.bel (Nat.le_refl _)) HSR.out HCN.out))
      have HB2 := Lib.hid hb2
      have HRES := Lib.hid hres
      have HBOX := Lib.hid hbox
      have HBXX := Lib.hid hbxx
      clear hb2 hres hbox hbxx b0 b1 b2 b3 b4
      refine wp_quiet_below (by kernel_rfl) (by kernel_rfl) ?_
      repeat (quiet_step (first | (go_at_call 87; exact KM.out _)))
      refine wpQuiet_nil ?_
      intro w9 hw'
      have hb9 : Below wd.heap.size wd w9 := by obtain ⟨⟨wx, hbx⟩, hw''⟩ := hw'; rw [hw'']; exact hbx
      clear hw'
      have HB9 := Lib.hid (HB2.out.trans (hb9.mono (by omega)))
      have hs9 := hb9.size
      have HRES9 := Lib.hid (rowIs_below HRES.out hb9 (by omega))
      have HBOX9 := Lib.hid (rowIs_below HBOX.out hb9 (by omega))
      have HBXX9 := Lib.hid (rowIs_below HBXX.out hb9 (by omega))
      have r0 := (hb9.cell hbld).trans q0
      have r1 := (hb9.cell (p := ⟨ad.block, ad.off + 1, none⟩) hbld).trans q1
      have r2 := (hb9.cell (p := ⟨ad.block, ad.off + 2, none⟩) hbld).trans q2
      have hbl9 : ad.block < w9.heap.size := by omega
      clear Q0 Q1 Q2 B0 B1 B2 B3 B4 KM HRES HBOX HBXX q0 q1 q2 hb9 HHd HB2
      simp only [mI]
      have hci : (0 : Int) ≤ (i : Int) := by omega
      have hR1 := HRD.out
      simp only [Va.R] at hR1
      obtain ⟨-, hT, -, hRL, hRF⟩ := hR1
      have HRLF := Lib.hid (show RL l (d - 1) ∧ RL f (d - 1) from ⟨hRL, hRF⟩)
      clear hRL hRF
      cases hst : s.i
      · obtain ⟨hil, h4⟩ := HLT.out.2 hst
        obtain rfl : hk = 5 := h4
        obtain rfl : l = [] := by
          have := hT.c3
          cases l with
          | nil => rfl
          | cons a b => exact absurd ⟨by decide, by simp⟩ this
        obtain rfl : n = 0 := by
          have := hT.c1
          by_cases e : n = 0
          · exact e
          · exact absurd ⟨by decide, by decide, e⟩ this
        obtain rfl : t = ByteArray.empty := by
          have := hT.c2
          by_cases e : t.size = 0
          · exact empty_of e
          · exact absurd ⟨by decide, e⟩ this
        have hyl := hyF hst
        have HYL := Lib.hid hyl
        have HST := Lib.hid hst
        have HXC := Lib.hid (Nat.le_trans (cnt_sub (k := 5) (n := 0) (t := ByteArray.empty) (l := []) (ks := ks) (f := f) (.inr (List.mem_of_getElem? hyl))) HCN.out)
        have HOP := Lib.hid HH.out.op
        have b0 := HBOX9.out.cell (show 0 < 5 by decide)
        simp only [hdAt, Hd.cells, List.getD_cons_succ, List.getD_cons_zero] at b0
        clear hT hyl hyF hyL hst
        go_wp2_with fail
        have hbd := one_alloc w9 (Obj.cells #[.int .i64 5, .int .i64 0, .string { data := #[] }, .slice none 0 0, .slice none 0 0] 25)
        have hrow : (w9.alloc (Obj.cells #[.int .i64 5, .int .i64 0, .string { data := #[] }, .slice none 0 0, .slice none 0 0] 25)).rowIs w9.heap.size 25 5 (hdAt ⟨5, 0, ByteArray.empty, none, 0, 0, none, 0, 0⟩) := hdAt_row (h := ⟨5, 0, ByteArray.empty, none, 0, 0, none, 0, 0⟩) (heap_alloc_new _ _)
        have hszd : (w9.alloc (Obj.cells #[.int .i64 5, .int .i64 0, .string { data := #[] }, .slice none 0 0, .slice none 0 0] 25)).heap.size = w9.heap.size + 1 := by simp
        generalize w9.alloc (Obj.cells #[.int .i64 5, .int .i64 0, .string { data := #[] }, .slice none 0 0, .slice none 0 0] 25) = wz at hbd hrow hszd ⊢
        have HBZ := Lib.hid (HB9.out.trans (hbd.mono (by omega)))
        have HRESZ := Lib.hid (rowIs_below HRES9.out hbd (by omega))
        have HBOXZ := Lib.hid (rowIs_below HBOX9.out hbd (by omega))
        have HBXXZ := Lib.hid (rowIs_below HBXX9.out hbd (by omega))
        have HROW := Lib.hid hrow
        clear hbd hrow b0 HB9 HRES9 HBOX9 HBXX9 r0 r1 r2
        have b3 := HBOXZ.out.cell (show 3 < 5 by decide)
        simp only [hdAt, Hd.cells, List.getD_cons_succ, List.getD_cons_zero, List.length_nil] at b3
        go_loopw [9] (fun iv wr => iv = .int .i64 0 ∧ wz = wr) (fun _ _ => 0)
        case atStart => exact ⟨rfl, rfl⟩
        case round =>
         obtain ⟨rfl, rfl⟩ := hrel
         go_wp2_with fail
         clear b3
         go_loopw [11] (fun iv wr2 => ∃ (j : Nat) (us : List (ByteArray × Hd)) (A' : Option Addr) (c' : Nat), iv = .int .i64 j ∧ j ≤ f.length ∧ us.map Prod.fst = ks.take j ∧ LoopZF 5 wz w9.heap.size S (f.set i (putV y p x)) j wr2 us A' c') (fun iv _ => f.length - (intOf iv).toNat)
         case atStart => exact ⟨0, [], none, 0, rfl, Nat.zero_le _, by simp, ⟨Kp.refl _ _, HROW.out, World.ownsRow_nil _ _ _ _, rfl, fun j y u _ hu => by simp at hu⟩⟩
         case round =>
          obtain ⟨j, us, A', c', rfl, hj, hus, hLZ⟩ := hrel
          have HUS := Lib.hid hus
          clear hus
          have HLZ := Lib.hid hLZ
          have hkp := HLZ.out.kp
          have cO := HLZ.out.row.cell (show 4 < 5 by decide)
          have fO := HLZ.out.row.frozen 4
          have hOr := HLZ.out.row.lt
          have hszr := HLZ.out.kp.size
          have HRO := Lib.hid (show some w9.heap.size ≠ (Value.slice A' j c').ownBlock from fun e => by have := own_lo HLZ.out.own e.symm; omega)
          have box := rowIs_below' (B := 0) HBOXZ.out (hkp.block w.heap.size (by omega) HBOXZ.out.lt)
          have bxx := rowIs_below' (B := 0) HBXXZ.out (hkp.block (w.heap.size + 1) (by omega) HBXXZ.out.lt)
          have b4 := box.cell (show 4 < 5 by decide)
          have HBR := Lib.hid (show Below w.heap.size w wr from HBZ.out.trans (hkp.bel.mono (by omega)))
          have hRr : wr.rowIs (w.heap.size + 1 + 1) 25 5 zeroRes := rowIs_below' (B := 0) HRESZ.out (hkp.block (w.heap.size + 1 + 1) (by omega) HRESZ.out.lt)
          have HRR := Lib.hid hRr
          simp only [hdAt, Hd.cells, List.getD_cons_succ, List.getD_cons_zero] at cO b4
          by_cases hlt : j < f.length
          · obtain ⟨xx, hxx⟩ : ∃ xx, f[j]? = some xx := ⟨f[j], List.getElem?_eq_getElem hlt⟩
            obtain ⟨ad2, u, key, hA2, hSad, hab, hkj, hkm, hLu, hat2⟩ := HOP.out.K j xx hxx
            obtain ⟨k0, k1, k2, k3, k4, k5⟩ := hat2.below HBR.out hab
            obtain rfl : F = some ad2 := hA2
            have HKJ := Lib.hid hkj
            have HLu := Lib.hid hLu
            have HXJ := Lib.hid hxx
            by_cases hij : j = i
            · subst hij
              have x0 := bxx.cell (show 0 < 5 by decide)
              have x1 := bxx.cell (show 1 < 5 by decide)
              have x2 := bxx.cell (show 2 < 5 by decide)
              have x3 := bxx.cell (show 3 < 5 by decide)
              have x4 := bxx.cell (show 4 < 5 by decide)
              simp only [hdAt, Hd.cells, List.getD_cons_succ, List.getD_cons_zero] at x0 x1 x2 x3 x4
              clear hLZ hkp hLu hat2 hxx box bxx hRr hkj hkm
              obtain rfl : xx = y := by have h1 := HXJ.out; rw [HYL.out] at h1; injection h1 with h1; exact h1.symm
              go_upto_region 16 with fail
              have hby := one_alloc wr (Obj.cells #[.string key, .int .i64 u.k, .int .i64 u.n, .string u.s, .slice u.A u.la u.lc, .slice u.F u.lf u.fc] 36)
              have hyr : (wr.alloc (Obj.cells #[.string key, .int .i64 u.k, .int .i64 u.n, .string u.s, .slice u.A u.la u.lc, .slice u.F u.lf u.fc] 36)).rowIs wr.heap.size 36 6 (prAt (key, u)) := prAt_row (heap_alloc_new _ _)
              have hsy : (wr.alloc (Obj.cells #[.string key, .int .i64 u.k, .int .i64 u.n, .string u.s, .slice u.A u.la u.lc, .slice u.F u.lf u.fc] 36)).heap.size = wr.heap.size + 1 := by simp
              generalize wr.alloc (Obj.cells #[.string key, .int .i64 u.k, .int .i64 u.n, .string u.s, .slice u.A u.la u.lc, .slice u.F u.lf u.fc] 36) = wy at hby hyr hsy ⊢
              have HBY := Lib.hid hby
              have HBD := Lib.hid (show Below w.heap.size w wy.drew from (HBR.out.trans (hby.mono HBR.out.size)).trans ((Below.refl _ _).drew))
              have HYR := Lib.hid (show ∀ w5, Below wy.drew.heap.size wy.drew w5 → w5.rowIs wr.heap.size 36 6 (prAt (key, u)) from fun w5 hb => rowIs_below hyr.drew hb (show wr.heap.size < wy.heap.size by omega))
              have hN1 : w.heap.size + 1 < wr.heap.size := by omega
              have HS0 : Hid (X5 (w.heap.size + 1) hx wy.drew) := Lib.hid ⟨(hby.cell (p := ⟨w.heap.size + 1, 0, none⟩) hN1).trans x0, (hby.cell (p := ⟨w.heap.size + 1, 1, none⟩) hN1).trans x1, (hby.cell (p := ⟨w.heap.size + 1, 2, none⟩) hN1).trans x2, (hby.cell (p := ⟨w.heap.size + 1, 3, none⟩) hN1).trans x3, (hby.cell (p := ⟨w.heap.size + 1, 4, none⟩) hN1).trans x4⟩
              have HS1 := Lib.hid (show ∀ w5, Below wy.drew.heap.size wy.drew w5 → X5 (w.heap.size + 1) hx w5 from fun w5 hb => X5.blk HS0.out (hb.block _ (show w.heap.size + 1 < wy.heap.size by omega)))
              have HS2 := Lib.hid (show ∀ w5 (v : Hd), Below wy.drew.heap.size wy.drew w5 → X5 (w.heap.size + 1) hx (resP w5 wr.heap.size v) from fun w5 v hb => X5.blk (HS1.out w5 hb) (resP_set _ (by omega)))
              have hld : ldQ = Op.load 25 (Operand.tmp 66) := rfl
              have y0 := hyr.cell (show 0 < 6 by decide)
              have y1 := hyr.cell (show 1 < 6 by decide)
              have y2 := hyr.cell (show 2 < 6 by decide)
              have y3 := hyr.cell (show 3 < 6 by decide)
              have y4 := hyr.cell (show 4 < 6 by decide)
              have y5 := hyr.cell (show 5 < 6 by decide)
              simp only [prAt, pcells, Hd.cells, List.getD_cons_succ, List.getD_cons_zero] at y0 y1 y2 y3 y4 y5
              have HY := Lib.hid (show (f.set j (putV xx p x))[j]? = some (putV xx p x) from List.getElem?_set_self hlt)
              clear hby hyr x0 x1 x2 x3 x4
              have HCL := Lib.hid (IH.out xx u wy.drew (some ad) 0 0 (fun b hb => by have := HSb.out b hb; show b < wy.heap.size; omega) (HLu.out.below HBD.out (Nat.le_refl _)) (HXX.out.below HBD.out (Nat.le_refl _)) (by have : p = [] := List.length_eq_zero_iff.1 (by have := HPL.out; omega); rw [this]; exact PathAt.nil _ _) (by have := HPL.out; omega) (Nat.le_refl _) HXC.out (RL_mem HRLF.out.2 (List.mem_of_getElem? HXJ.out)) HGY.out)
              go_wp2_with fail
              rw [show Op.load 25 (Operand.tmp 66) = ldQ from rfl]
              go_region_held3 (fun w' => w'.cell? ⟨w.heap.size + 1, 0, none⟩ = some (.int .i64 hx.k) ∧ w'.cell? ⟨w.heap.size + 1, 1, none⟩ = some (.int .i64 hx.n) ∧ w'.cell? ⟨w.heap.size + 1, 2, none⟩ = some (.string hx.s) ∧ w'.cell? ⟨w.heap.size + 1, 3, none⟩ = some (.slice hx.A hx.la hx.lc) ∧ w'.cell? ⟨w.heap.size + 1, 4, none⟩ = some (.slice hx.F hx.lf hx.fc))
                (first
                  | (with_reducible exact HS2.out _ _ hb5)
                  | (have h7 := HS1.out _ hb5; with_reducible exact h7)
                  | (have h7 := HS0.out; with_reducible exact h7)
                  | fail)
                (first
                  | (go_at_call 113; refine HCL.out.mono ?_; rintro e w5 ⟨h', rfl, hl5, hb5⟩; have y1 := (HYR.out _ hb5).cell (show 1 < 6 by decide); have yf1 := (HYR.out _ hb5).frozen 1; have y2 := (HYR.out _ hb5).cell (show 2 < 6 by decide); have yf2 := (HYR.out _ hb5).frozen 2; have y3 := (HYR.out _ hb5).cell (show 3 < 6 by decide); have yf3 := (HYR.out _ hb5).frozen 3; have y4 := (HYR.out _ hb5).cell (show 4 < 6 by decide); have yf4 := (HYR.out _ hb5).frozen 4; have y5 := (HYR.out _ hb5).cell (show 5 < 6 by decide); have yf5 := (HYR.out _ hb5).frozen 5; have y0 := (HYR.out _ hb5).cell (show 0 < 6 by decide); have HL5 := Lib.hid hl5; have HB5 := Lib.hid hb5; clear hl5; simp only [prAt, pcells, Hd.cells, List.getD_cons_succ, List.getD_cons_zero] at y0 y1 y2 y3 y4 y5)
                  | fail)
              all_goals
                clear y0 y1 y2 y3 y4 y5 yf1 yf2 yf3 yf4 yf5
                have hb5w : Below wr.heap.size wr w5 := HBY.out.trans ((show Below wy.heap.size wy w5 from ((Below.refl _ _).drew).trans HB5.out).mono (by omega))
                have hb6 : Below wr.heap.size wr (((((w5.setCell ⟨wr.heap.size, 1, none⟩ (.int .i64 h'.k)).setCell ⟨wr.heap.size, 2, none⟩ (.int .i64 h'.n)).setCell ⟨wr.heap.size, 3, none⟩ (.string h'.s)).setCell ⟨wr.heap.size, 4, none⟩ (.slice h'.A h'.la h'.lc)).setCell ⟨wr.heap.size, 5, none⟩ (.slice h'.F h'.lf h'.fc)) := resP_below hb5w (Nat.le_refl _)
                have row6 : (((((w5.setCell ⟨wr.heap.size, 1, none⟩ (.int .i64 h'.k)).setCell ⟨wr.heap.size, 2, none⟩ (.int .i64 h'.n)).setCell ⟨wr.heap.size, 3, none⟩ (.string h'.s)).setCell ⟨wr.heap.size, 4, none⟩ (.slice h'.A h'.la h'.lc)).setCell ⟨wr.heap.size, 5, none⟩ (.slice h'.F h'.lf h'.fc)).rowIs wr.heap.size 36 6 (prAt (key, h')) := resP_row (HYR.out _ HB5.out)
                have hs6 : (((((w5.setCell ⟨wr.heap.size, 1, none⟩ (.int .i64 h'.k)).setCell ⟨wr.heap.size, 2, none⟩ (.int .i64 h'.n)).setCell ⟨wr.heap.size, 3, none⟩ (.string h'.s)).setCell ⟨wr.heap.size, 4, none⟩ (.slice h'.A h'.la h'.lc)).setCell ⟨wr.heap.size, 5, none⟩ (.slice h'.F h'.lf h'.fc)).heap.size = w5.heap.size := by simp
                have hk6 : ∀ b, b ≠ wr.heap.size → (((((w5.setCell ⟨wr.heap.size, 1, none⟩ (.int .i64 h'.k)).setCell ⟨wr.heap.size, 2, none⟩ (.int .i64 h'.n)).setCell ⟨wr.heap.size, 3, none⟩ (.string h'.s)).setCell ⟨wr.heap.size, 4, none⟩ (.slice h'.A h'.la h'.lc)).setCell ⟨wr.heap.size, 5, none⟩ (.slice h'.F h'.lf h'.fc)).heap[b]? = w5.heap[b]? := fun b hb => resP_set b hb
                generalize (((((w5.setCell ⟨wr.heap.size, 1, none⟩ (.int .i64 h'.k)).setCell ⟨wr.heap.size, 2, none⟩ (.int .i64 h'.n)).setCell ⟨wr.heap.size, 3, none⟩ (.string h'.s)).setCell ⟨wr.heap.size, 4, none⟩ (.slice h'.A h'.la h'.lc)).setCell ⟨wr.heap.size, 5, none⟩ (.slice h'.F h'.lf h'.fc)) = w6 at hb6 row6 hs6 hk6 ⊢
                have y0 := row6.cell (show 0 < 6 by decide)
                have y1 := row6.cell (show 1 < 6 by decide)
                have y2 := row6.cell (show 2 < 6 by decide)
                have y3 := row6.cell (show 3 < 6 by decide)
                have y4 := row6.cell (show 4 < 6 by decide)
                have y5 := row6.cell (show 5 < 6 by decide)
                simp only [prAt, pcells, Hd.cells, List.getD_cons_succ, List.getD_cons_zero] at y0 y1 y2 y3 y4 y5
                have cO6 := (hb6.cell (p := ⟨w9.heap.size, 4, none⟩) hOr).trans cO
                have fO6 := (hb6.frozen (p := ⟨w9.heap.size, 4, none⟩) hOr).trans fO
                have hO6 : w9.heap.size < w6.heap.size := by have := hb6.size; omega
                have HB6 := Lib.hid hb6
                have HK6 := Lib.hid hk6
                have hs5 : wy.heap.size ≤ w5.heap.size := HB5.out.size
                have HQ := Lib.hid (fun o : Obj => show Below wr.heap.size wr (w6.alloc o) from HB6.out.trans ((one_alloc w6 o).mono HB6.out.size))
                have HS6 := Lib.hid hs6
                have HSY := Lib.hid hsy
                clear hb5w hb6 row6 hk6 hs6 hsy
                go_wp2_with (at_builtin; refine wpList_append_lies _ rfl _ _ 23 rfl wz.heap.size 36 i6 _ 6 96 Try.underlying23 hj0 hy0 hy1 hy2 rfl (by decide) (.slice A' j c') j (us.flatMap pcells) rfl (own_below HLZ.out.own (HQ.out _) (Nat.le_refl _)) ⟨w6.heap.size, 0, none⟩ 1 1 (pcells (key, h')) rfl rfl (news_one _ _ rfl) (by simp [pcells, Hd.cells, Value.oneCell']) (by decide) (by unfold maxLen; omega) (by omega) (Nat.le_trans HLZ.out.kp.size (HQ.out _).size) _ rfl ?_; intro g cap w3 hown3 hgrow3 hat3 hlt3; have cO3 := cur_gr cO (HQ.out _) hgrow3 HRO.out; have fO3 := cur_grf cO fO (HQ.out _) hgrow3 HRO.out)
                refine ⟨⟨j + 1, us ++ [(key, h')], _, _, by go_num, by omega, fst_next HUS.out HKJ.out, HLZ.out.step (by omega) (fun b hb => by have := HSb.out b hb; omega) setc4 HY.out (HQ.out _) ?_ hown3 hgrow3 hat3⟩, by simp [intOf]; omega⟩
                exact liesY HL5.out HSY.out (by have := HS6.out; simp; omega) (by omega) (fun b hb => by have := HSb.out b hb; omega) (fun b hb => own_lo HLZ.out.own hb) (fun b hb hne => by rw [Below.heap_alloc _ _ _ (by have := HS6.out; omega)]; exact HK6.out b hne)
            · have hne : ((j : Int) == (i : Int)) = false := by simp; omega
              have HY := Lib.hid (show (f.set i (putV y p x))[j]? = some xx by rw [List.getElem?_set_ne (by omega)]; exact hxx)
              clear hLZ hkp hLu hat2 hxx box bxx hRr hkj hkm hij
              go_wp2_with (at_builtin; refine wpList_append_lies _ rfl _ _ 23 rfl wz.heap.size 36 i6 _ 6 96 Try.underlying23 hj0 hy0 hy1 hy2 rfl (by decide) (.slice A' j c') j (us.flatMap pcells) rfl (own_below HLZ.out.own (two_allocs wr _ _) (Nat.le_refl _)) ⟨wr.heap.size + 1, 0, none⟩ 1 1 (pcells (key, u)) rfl rfl (news_two wr _ _ _) (by simp [pcells, Hd.cells, Value.oneCell']) (by decide) (by unfold maxLen; omega) (by omega) (Nat.le_trans HLZ.out.kp.size ((two_allocs wr _ _)).size) _ rfl ?_; intro g cap w3 hown3 hgrow3 hat3 hlt3; have cO3 := cur_gr cO ((two_allocs wr _ _)) hgrow3 HRO.out; have fO3 := cur_grf cO fO ((two_allocs wr _ _)) hgrow3 HRO.out)
              refine ⟨⟨j + 1, us ++ [(key, u)], _, _, by go_num, by omega, fst_next HUS.out HKJ.out, HLZ.out.step (by omega) (fun b hb => by have := HSb.out b hb; omega) setc4 HY.out (two_allocs wr _ _) ?_ hown3 hgrow3 hat3⟩, by simp [intOf]; omega⟩
              refine Lies.keep (fun q hq hl => (HBR.out.trans ((two_allocs wr _ _).mono HBR.out.size)).cell hl) (fun b hb hl => ⟨.inl hb, ?_, fun e => ?_⟩) _ _ HLu.out
              · simp; omega
              · have := own_lo HLZ.out.own e; omega
          · obtain rfl : j = f.length := by omega
            clear hLZ hkp bxx hRr
            have z0 := HRR.out.cell (show 0 < 5 by decide)
            have z1 := HRR.out.cell (show 1 < 5 by decide)
            have z2 := HRR.out.cell (show 2 < 5 by decide)
            have z3 := HRR.out.cell (show 3 < 5 by decide)
            have z4 := HRR.out.cell (show 4 < 5 by decide)
            have g0 := HRR.out.frozen 0
            have g1 := HRR.out.frozen 1
            have g2 := HRR.out.frozen 2
            have g3 := HRR.out.frozen 3
            have g4 := HRR.out.frozen 4
            have o0 := HLZ.out.row.cell (show 0 < 5 by decide)
            have o1 := HLZ.out.row.cell (show 1 < 5 by decide)
            have o2 := HLZ.out.row.cell (show 2 < 5 by decide)
            have o3 := HLZ.out.row.cell (show 3 < 5 by decide)
            have o4 := HLZ.out.row.cell (show 4 < 5 by decide)
            simp only [hdAt, Hd.cells, List.getD_cons_succ, List.getD_cons_zero] at z0 z1 z2 z3 z4 o0 o1 o2 o3 o4
            have HKM : Hid (∀ x ∈ ks, x.size ≤ maxLen) := Lib.hid (by have := HH.out; simp only [Lies] at this; exact this.2.1.2.2.2.1)
            go_wp2_with fail
            refine bodyPost_ret (v := .agg #[.int .i64 5, .int .i64 0, .string ByteArray.empty, .slice none 0 0, .slice A' f.length c']) (by simp [results, Try.results113, go_sem, z0, z1, z2, z3, z4]; try rfl) rfl ?_
            refine ⟨⟨5, 0, ByteArray.empty, none, 0, 0, A', f.length, c'⟩, rfl, ?_, res_below HBR.out (by omega)⟩
            rw [putV_F HSI.out HST.out HYL.out]
            exact HLZ.out.doneF (by simp) (HUS.out.trans (List.take_of_length_le (by have := HE6.out; omega))) HKM.out (by simp; unfold maxLen; omega) (by decide) (by omega) (fun b hb hs => res_set (w := w) b (fun e => by
                rcases hs with h | h
                · have := HSb.out b h; omega
                · omega))
      · obtain ⟨hil, h4⟩ := HLT.out.1 hst
        obtain rfl : hk = 4 := h4
        obtain rfl : f = [] := by
          have := hT.c4
          cases f with
          | nil => rfl
          | cons a b => exact absurd ⟨by decide, by simp⟩ this
        obtain rfl : ks = [] := List.length_eq_zero_iff.1 (by have := HE6.out; simpa using this)
        obtain rfl : n = 0 := by
          have := hT.c1
          by_cases e : n = 0
          · exact e
          · exact absurd ⟨by decide, by decide, e⟩ this
        obtain rfl : t = ByteArray.empty := by
          have := hT.c2
          by_cases e : t.size = 0
          · exact empty_of e
          · exact absurd ⟨by decide, e⟩ this
        have hyl := hyL hst
        have HYL := Lib.hid hyl
        have HST := Lib.hid hst
        have HXC := Lib.hid (Nat.le_trans (cnt_sub (k := 4) (n := 0) (t := ByteArray.empty) (l := l) (ks := []) (f := []) (.inl (List.mem_of_getElem? hyl))) HCN.out)
        have HOP := Lib.hid HH.out.op
        have b0 := HBOX9.out.cell (show 0 < 5 by decide)
        simp only [hdAt, Hd.cells, List.getD_cons_succ, List.getD_cons_zero] at b0
        clear hT hyl hyF hyL hst
        go_wp2_with fail
        have hbd := one_alloc w9 (Obj.cells #[.int .i64 4, .int .i64 0, .string { data := #[] }, .slice none 0 0, .slice none 0 0] 25)
        have hrow : (w9.alloc (Obj.cells #[.int .i64 4, .int .i64 0, .string { data := #[] }, .slice none 0 0, .slice none 0 0] 25)).rowIs w9.heap.size 25 5 (hdAt ⟨4, 0, ByteArray.empty, none, 0, 0, none, 0, 0⟩) := hdAt_row (h := ⟨4, 0, ByteArray.empty, none, 0, 0, none, 0, 0⟩) (heap_alloc_new _ _)
        have hszd : (w9.alloc (Obj.cells #[.int .i64 4, .int .i64 0, .string { data := #[] }, .slice none 0 0, .slice none 0 0] 25)).heap.size = w9.heap.size + 1 := by simp
        generalize w9.alloc (Obj.cells #[.int .i64 4, .int .i64 0, .string { data := #[] }, .slice none 0 0, .slice none 0 0] 25) = wz at hbd hrow hszd ⊢
        have HBZ := Lib.hid (HB9.out.trans (hbd.mono (by omega)))
        have HRESZ := Lib.hid (rowIs_below HRES9.out hbd (by omega))
        have HBOXZ := Lib.hid (rowIs_below HBOX9.out hbd (by omega))
        have HBXXZ := Lib.hid (rowIs_below HBXX9.out hbd (by omega))
        have HROW := Lib.hid hrow
        clear hbd hrow b0 HB9 HRES9 HBOX9 HBXX9 r0 r1 r2
        go_loopw [9] (fun iv wr => ∃ (j : Nat) (us : List Hd) (A' : Option Addr) (c' : Nat), iv = .int .i64 j ∧ j ≤ l.length ∧ LoopZL 4 wz w9.heap.size S (l.set i (putV y p x)) j wr us A' c') (fun iv _ => l.length - (intOf iv).toNat)
        case atStart => exact ⟨0, [], none, 0, rfl, Nat.zero_le _, ⟨Kp.refl _ _, HROW.out, World.ownsRow_nil _ _ _ _, rfl, fun j y u _ hu => by simp at hu⟩⟩
        case round =>
          obtain ⟨j, us, A', c', rfl, hj, hLZ⟩ := hrel
          have HLZ := Lib.hid hLZ
          have hkp := HLZ.out.kp
          have cO := HLZ.out.row.cell (show 3 < 5 by decide)
          have fO := HLZ.out.row.frozen 3
          have hOr := HLZ.out.row.lt
          have hszr := HLZ.out.kp.size
          have HRO := Lib.hid (show some w9.heap.size ≠ (Value.slice A' j c').ownBlock from fun e => by have := own_lo HLZ.out.own e.symm; omega)
          have box := rowIs_below' (B := 0) HBOXZ.out (hkp.block w.heap.size (by omega) HBOXZ.out.lt)
          have bxx := rowIs_below' (B := 0) HBXXZ.out (hkp.block (w.heap.size + 1) (by omega) HBXXZ.out.lt)
          have b3 := box.cell (show 3 < 5 by decide)
          have b4 := box.cell (show 4 < 5 by decide)
          have HBR := Lib.hid (show Below w.heap.size w wr from HBZ.out.trans (hkp.bel.mono (by omega)))
          have hRr : wr.rowIs (w.heap.size + 1 + 1) 25 5 zeroRes := rowIs_below' (B := 0) HRESZ.out (hkp.block (w.heap.size + 1 + 1) (by omega) HRESZ.out.lt)
          have HRR := Lib.hid hRr
          simp only [hdAt, Hd.cells, List.getD_cons_succ, List.getD_cons_zero] at cO b3 b4
          by_cases hlt : j < l.length
          · obtain ⟨xx, hxx⟩ : ∃ xx, l[j]? = some xx := ⟨l[j], List.getElem?_eq_getElem hlt⟩
            obtain ⟨ad2, u, hA2, hSad, hab, hLu, hat2⟩ := HOP.out.L j xx hxx
            obtain ⟨k0, k1, k2, k3, k4⟩ := hat2.below HBR.out hab
            obtain rfl : HA = some ad2 := hA2
            have HLu := Lib.hid hLu
            have HXJ := Lib.hid hxx
            by_cases hij : j = i
            · subst hij
              have x0 := bxx.cell (show 0 < 5 by decide)
              have x1 := bxx.cell (show 1 < 5 by decide)
              have x2 := bxx.cell (show 2 < 5 by decide)
              have x3 := bxx.cell (show 3 < 5 by decide)
              have x4 := bxx.cell (show 4 < 5 by decide)
              simp only [hdAt, Hd.cells, List.getD_cons_succ, List.getD_cons_zero] at x0 x1 x2 x3 x4
              clear hLZ hkp hLu hat2 hxx box bxx hRr
              obtain rfl : xx = y := by have h1 := HXJ.out; rw [HYL.out] at h1; injection h1 with h1; exact h1.symm
              go_upto_region 9 with fail
              have hby := one_alloc wr (Obj.cells #[.int .i64 u.k, .int .i64 u.n, .string u.s, .slice u.A u.la u.lc, .slice u.F u.lf u.fc] 25)
              have hyr : (wr.alloc (Obj.cells #[.int .i64 u.k, .int .i64 u.n, .string u.s, .slice u.A u.la u.lc, .slice u.F u.lf u.fc] 25)).rowIs wr.heap.size 25 5 (hdAt u) := hdAt_row (heap_alloc_new _ _)
              have hsy : (wr.alloc (Obj.cells #[.int .i64 u.k, .int .i64 u.n, .string u.s, .slice u.A u.la u.lc, .slice u.F u.lf u.fc] 25)).heap.size = wr.heap.size + 1 := by simp
              generalize wr.alloc (Obj.cells #[.int .i64 u.k, .int .i64 u.n, .string u.s, .slice u.A u.la u.lc, .slice u.F u.lf u.fc] 25) = wy at hby hyr hsy ⊢
              have HBY := Lib.hid hby
              have HBD := Lib.hid (show Below w.heap.size w wy.drew from (HBR.out.trans (hby.mono HBR.out.size)).trans ((Below.refl _ _).drew))
              have HYR := Lib.hid (show ∀ w5, Below wy.drew.heap.size wy.drew w5 → w5.rowIs wr.heap.size 25 5 (hdAt u) from fun w5 hb => rowIs_below hyr.drew hb (show wr.heap.size < wy.heap.size by omega))
              have hN1 : w.heap.size + 1 < wr.heap.size := by omega
              have HS0 : Hid (X5 (w.heap.size + 1) hx wy.drew) := Lib.hid ⟨(hby.cell (p := ⟨w.heap.size + 1, 0, none⟩) hN1).trans x0, (hby.cell (p := ⟨w.heap.size + 1, 1, none⟩) hN1).trans x1, (hby.cell (p := ⟨w.heap.size + 1, 2, none⟩) hN1).trans x2, (hby.cell (p := ⟨w.heap.size + 1, 3, none⟩) hN1).trans x3, (hby.cell (p := ⟨w.heap.size + 1, 4, none⟩) hN1).trans x4⟩
              have HS1 := Lib.hid (show ∀ w5, Below wy.drew.heap.size wy.drew w5 → X5 (w.heap.size + 1) hx w5 from fun w5 hb => X5.blk HS0.out (hb.block _ (show w.heap.size + 1 < wy.heap.size by omega)))
              have HS2 := Lib.hid (show ∀ w5 (v : Hd), Below wy.drew.heap.size wy.drew w5 → X5 (w.heap.size + 1) hx (resW w5 wr.heap.size v) from fun w5 v hb => X5.blk (HS1.out w5 hb) (res_set (w := w) _ (by omega)))
              have hld : ldY = Op.load 25 (Operand.tmp 10) := rfl
              have y0 := hyr.cell (show 0 < 5 by decide)
              have y1 := hyr.cell (show 1 < 5 by decide)
              have y2 := hyr.cell (show 2 < 5 by decide)
              have y3 := hyr.cell (show 3 < 5 by decide)
              have y4 := hyr.cell (show 4 < 5 by decide)
              simp only [hdAt, Hd.cells, List.getD_cons_succ, List.getD_cons_zero] at y0 y1 y2 y3 y4
              have HY := Lib.hid (show (l.set j (putV xx p x))[j]? = some (putV xx p x) from List.getElem?_set_self hlt)
              clear hby hyr x0 x1 x2 x3 x4
              have HCL := Lib.hid (IH.out xx u wy.drew (some ad) 0 0 (fun b hb => by have := HSb.out b hb; show b < wy.heap.size; omega) (HLu.out.below HBD.out (Nat.le_refl _)) (HXX.out.below HBD.out (Nat.le_refl _)) (by have : p = [] := List.length_eq_zero_iff.1 (by have := HPL.out; omega); rw [this]; exact PathAt.nil _ _) (by have := HPL.out; omega) (Nat.le_refl _) HXC.out (RL_mem HRLF.out.1 (List.mem_of_getElem? HXJ.out)) HGY.out)
              go_wp2_with fail
              rw [show Op.load 25 (Operand.tmp 10) = ldY from rfl]
              go_region_held3 (fun w' => w'.cell? ⟨w.heap.size + 1, 0, none⟩ = some (.int .i64 hx.k) ∧ w'.cell? ⟨w.heap.size + 1, 1, none⟩ = some (.int .i64 hx.n) ∧ w'.cell? ⟨w.heap.size + 1, 2, none⟩ = some (.string hx.s) ∧ w'.cell? ⟨w.heap.size + 1, 3, none⟩ = some (.slice hx.A hx.la hx.lc) ∧ w'.cell? ⟨w.heap.size + 1, 4, none⟩ = some (.slice hx.F hx.lf hx.fc))
                (first
                  | (with_reducible exact HS2.out _ _ hb5)
                  | (have h7 := HS1.out _ hb5; with_reducible exact h7)
                  | (have h7 := HS0.out; with_reducible exact h7)
                  | fail)
                (first
                  | (go_at_call 113; refine HCL.out.mono ?_; rintro e w5 ⟨h', rfl, hl5, hb5⟩; have y0 := (HYR.out _ hb5).cell (show 0 < 5 by decide); have yf0 := (HYR.out _ hb5).frozen 0; have y1 := (HYR.out _ hb5).cell (show 1 < 5 by decide); have yf1 := (HYR.out _ hb5).frozen 1; have y2 := (HYR.out _ hb5).cell (show 2 < 5 by decide); have yf2 := (HYR.out _ hb5).frozen 2; have y3 := (HYR.out _ hb5).cell (show 3 < 5 by decide); have yf3 := (HYR.out _ hb5).frozen 3; have y4 := (HYR.out _ hb5).cell (show 4 < 5 by decide); have yf4 := (HYR.out _ hb5).frozen 4; have HL5 := Lib.hid hl5; have HB5 := Lib.hid hb5; clear hl5; simp only [hdAt, Hd.cells, List.getD_cons_succ, List.getD_cons_zero] at y0 y1 y2 y3 y4)
                  | fail)
              all_goals
                clear y0 y1 y2 y3 y4 yf0 yf1 yf2 yf3 yf4
                have hb5w : Below wr.heap.size wr w5 := HBY.out.trans ((show Below wy.heap.size wy w5 from ((Below.refl _ _).drew).trans HB5.out).mono (by omega))
                have hb6 : Below wr.heap.size wr (((((w5.setCell ⟨wr.heap.size, 0, none⟩ (.int .i64 h'.k)).setCell ⟨wr.heap.size, 1, none⟩ (.int .i64 h'.n)).setCell ⟨wr.heap.size, 2, none⟩ (.string h'.s)).setCell ⟨wr.heap.size, 3, none⟩ (.slice h'.A h'.la h'.lc)).setCell ⟨wr.heap.size, 4, none⟩ (.slice h'.F h'.lf h'.fc)) := res_below hb5w (Nat.le_refl _)
                have row6 := resW_row (HYR.out _ HB5.out) (u := h')
                have hs6 : (((((w5.setCell ⟨wr.heap.size, 0, none⟩ (.int .i64 h'.k)).setCell ⟨wr.heap.size, 1, none⟩ (.int .i64 h'.n)).setCell ⟨wr.heap.size, 2, none⟩ (.string h'.s)).setCell ⟨wr.heap.size, 3, none⟩ (.slice h'.A h'.la h'.lc)).setCell ⟨wr.heap.size, 4, none⟩ (.slice h'.F h'.lf h'.fc)).heap.size = w5.heap.size := by simp
                have hk6 : ∀ b, b ≠ wr.heap.size → (((((w5.setCell ⟨wr.heap.size, 0, none⟩ (.int .i64 h'.k)).setCell ⟨wr.heap.size, 1, none⟩ (.int .i64 h'.n)).setCell ⟨wr.heap.size, 2, none⟩ (.string h'.s)).setCell ⟨wr.heap.size, 3, none⟩ (.slice h'.A h'.la h'.lc)).setCell ⟨wr.heap.size, 4, none⟩ (.slice h'.F h'.lf h'.fc)).heap[b]? = w5.heap[b]? := fun b hb => res_set (w := w) b hb
                generalize (((((w5.setCell ⟨wr.heap.size, 0, none⟩ (.int .i64 h'.k)).setCell ⟨wr.heap.size, 1, none⟩ (.int .i64 h'.n)).setCell ⟨wr.heap.size, 2, none⟩ (.string h'.s)).setCell ⟨wr.heap.size, 3, none⟩ (.slice h'.A h'.la h'.lc)).setCell ⟨wr.heap.size, 4, none⟩ (.slice h'.F h'.lf h'.fc)) = w6 at hb6 row6 hs6 hk6 ⊢
                have y0 := row6.cell (show 0 < 5 by decide)
                have y1 := row6.cell (show 1 < 5 by decide)
                have y2 := row6.cell (show 2 < 5 by decide)
                have y3 := row6.cell (show 3 < 5 by decide)
                have y4 := row6.cell (show 4 < 5 by decide)
                simp only [hdAt, Hd.cells, List.getD_cons_succ, List.getD_cons_zero] at y0 y1 y2 y3 y4
                have cO6 := (hb6.cell (p := ⟨w9.heap.size, 3, none⟩) hOr).trans cO
                have fO6 := (hb6.frozen (p := ⟨w9.heap.size, 3, none⟩) hOr).trans fO
                have hO6 : w9.heap.size < w6.heap.size := by have := hb6.size; omega
                have HB6 := Lib.hid hb6
                have HK6 := Lib.hid hk6
                have hs5 : wy.heap.size ≤ w5.heap.size := HB5.out.size
                have HQ := Lib.hid (fun o : Obj => show Below wr.heap.size wr (w6.alloc o) from HB6.out.trans ((one_alloc w6 o).mono HB6.out.size))
                have HS6 := Lib.hid hs6
                have HSY := Lib.hid hsy
                clear hb5w hb6 row6 hk6 hs6 hsy
                go_wp2_with (at_builtin; refine wpList_append_lies _ rfl _ _ 22 rfl wz.heap.size 25 i0 _ 5 80 Try.underlying22 hi0 hz0 hz1 hz2 rfl (by decide) (.slice A' j c') j (us.flatMap Hd.cells) rfl (own_below HLZ.out.own (HQ.out _) (Nat.le_refl _)) ⟨w6.heap.size, 0, none⟩ 1 1 (Hd.cells h') rfl rfl (news_one _ _ rfl) (by simp [Hd.cells, Value.oneCell']) (by decide) (by unfold maxLen; omega) (by omega) (Nat.le_trans HLZ.out.kp.size (HQ.out _).size) _ rfl ?_; intro g cap w3 hown3 hgrow3 hat3 hlt3; have cO3 := cur_gr cO (HQ.out _) hgrow3 HRO.out; have fO3 := cur_grf cO fO (HQ.out _) hgrow3 HRO.out)
                refine ⟨⟨j + 1, us ++ [h'], _, _, by go_num, by omega, HLZ.out.step (by omega) (fun b hb => by have := HSb.out b hb; omega) setc3 HY.out (HQ.out _) ?_ hown3 hgrow3 hat3⟩, by simp [intOf]; omega⟩
                exact liesY HL5.out HSY.out (by have := HS6.out; simp; omega) (by omega) (fun b hb => by have := HSb.out b hb; omega) (fun b hb => own_lo HLZ.out.own hb) (fun b hb hne => by rw [Below.heap_alloc _ _ _ (by have := HS6.out; omega)]; exact HK6.out b hne)
            · have hne : ((j : Int) == (i : Int)) = false := by simp; omega
              have HY := Lib.hid (show (l.set i (putV y p x))[j]? = some xx by rw [List.getElem?_set_ne (by omega)]; exact hxx)
              clear hLZ hkp hLu hat2 hxx box bxx hRr hij
              go_wp2_with (at_builtin; refine wpList_append_lies _ rfl _ _ 22 rfl wz.heap.size 25 i0 _ 5 80 Try.underlying22 hi0 hz0 hz1 hz2 rfl (by decide) (.slice A' j c') j (us.flatMap Hd.cells) rfl (own_below HLZ.out.own (two_allocs wr _ _) (Nat.le_refl _)) ⟨wr.heap.size + 1, 0, none⟩ 1 1 (Hd.cells u) rfl rfl (news_two wr _ _ _) (by simp [Hd.cells, Value.oneCell']) (by decide) (by unfold maxLen; omega) (by omega) (Nat.le_trans HLZ.out.kp.size ((two_allocs wr _ _)).size) _ rfl ?_; intro g cap w3 hown3 hgrow3 hat3 hlt3; have cO3 := cur_gr cO ((two_allocs wr _ _)) hgrow3 HRO.out; have fO3 := cur_grf cO fO ((two_allocs wr _ _)) hgrow3 HRO.out)
              refine ⟨⟨j + 1, us ++ [u], _, _, by go_num, by omega, HLZ.out.step (by omega) (fun b hb => by have := HSb.out b hb; omega) setc3 HY.out (two_allocs wr _ _) ?_ hown3 hgrow3 hat3⟩, by simp [intOf]; omega⟩
              refine Lies.keep (fun q hq hl => (HBR.out.trans ((two_allocs wr _ _).mono HBR.out.size)).cell hl) (fun b hb hl => ⟨.inl hb, ?_, fun e => ?_⟩) _ _ HLu.out
              · simp; omega
              · have := own_lo HLZ.out.own e; omega
          · obtain rfl : j = l.length := by omega
            clear hLZ hkp bxx hRr
            simp only [List.length_nil] at b4
            have HBX := Lib.hid (show wr.cell? ⟨w.heap.size, 4, none⟩ = some (.slice F 0 fc) from b4)
            go_wp2_with fail
            go_loopw [11] (fun iv wr' => iv = .int .i64 0 ∧ wr' = wr) (fun _ _ => 0)
            case atStart => exact ⟨rfl, rfl⟩
            case round =>
              obtain ⟨rfl, rfl⟩ := hrel
              have z0 := HRR.out.cell (show 0 < 5 by decide)
              have z1 := HRR.out.cell (show 1 < 5 by decide)
              have z2 := HRR.out.cell (show 2 < 5 by decide)
              have z3 := HRR.out.cell (show 3 < 5 by decide)
              have z4 := HRR.out.cell (show 4 < 5 by decide)
              have g0 := HRR.out.frozen 0
              have g1 := HRR.out.frozen 1
              have g2 := HRR.out.frozen 2
              have g3 := HRR.out.frozen 3
              have g4 := HRR.out.frozen 4
              have o0 := HLZ.out.row.cell (show 0 < 5 by decide)
              have o1 := HLZ.out.row.cell (show 1 < 5 by decide)
              have o2 := HLZ.out.row.cell (show 2 < 5 by decide)
              have o3 := HLZ.out.row.cell (show 3 < 5 by decide)
              have o4 := HLZ.out.row.cell (show 4 < 5 by decide)
              simp only [hdAt, Hd.cells, List.getD_cons_succ, List.getD_cons_zero] at z0 z1 z2 z3 z4 o0 o1 o2 o3 o4
              go_wp2_with fail
              refine bodyPost_ret (v := .agg #[.int .i64 4, .int .i64 0, .string ByteArray.empty, .slice A' l.length c', .slice none 0 0]) (by simp [results, Try.results113, go_sem, z0, z1, z2, z3, z4]; try rfl) rfl ?_
              refine ⟨⟨4, 0, ByteArray.empty, A', l.length, c', none, 0, 0⟩, rfl, ?_, res_below HBR.out (by omega)⟩
              rw [putV_L HSI.out HST.out HYL.out]
              exact HLZ.out.doneL (by simp) (by simp; unfold maxLen; omega) (by decide) (by omega) (fun b hb hs => res_set (w := w) b (fun e => by
                rcases hs with h | h
                · have := HSb.out b h; omega
                · omega))
    · obtain ⟨k, n, t, l, ks, f⟩ := a
      obtain ⟨bb, hbb⟩ := Option.isSome_iff_exists.1 hgo
      obtain ⟨i, y, hsi, hyL, hyF, hgy⟩ := goV_cons hbb
      have HGY : Hid ((goV y p).isSome = true) := Lib.hid (by rw [hgy]; rfl)
      have IH := Lib.hid (fun (y : Va) (u : Hd) (W : World) (A' : Option Addr) (m' c' : Nat) (h0 : ∀ b, S b → b < W.heap.size) (h1 : Lies W S y u) (h2 : Lies W S x hx) (h3 : PathAt W A' p) (h4 : m' = p.length) (h5 : m' ≤ c') (h6 : y.cnt ≤ 1000) (h8 : y.R (d - 1)) (h7 : (goV y p).isSome = true) => ih y u W A' m' c' (d - 1) h0 h1 h2 h3 (fun t ht => hR t (by simp [ht])) h4 h5 (by omega) h6 h8 h7)
      have HH := Lib.hid H
      have HXX := Lib.hid HX
      simp only [Lies] at H
      obtain ⟨⟨e1, e2, e3, e4, e5, e6⟩, -, -⟩ := H
      obtain ⟨hk, hnn, hss, HA, la, lc, F, lf, fc⟩ := h
      simp only at e1 e4 e5
      subst e1 e4
      have hlf : lf = f.length := e5
      subst hlf
      have HE6 := Lib.hid e6
      have HCN := Lib.hid hcn
      have hll : l.length ≤ 1000 := by have := len_le_cntL l; simp only [Va.cnt] at hcn; omega
      have hfl : f.length ≤ 1000 := by have := len_le_cntL f; simp only [Va.cnt] at hcn; omega
      have HRD := Lib.hid hrd
      have HLT := Lib.hid (subI_lt e6 HSR.out hsi)
      have HSI := Lib.hid hsi
      unfold Hd.val at *
      simp only
      -- the world behind the three blocks
      obtain ⟨wd, hwd⟩ : ∃ wd, wd = ((w.alloc (Obj.cells #[.int .i64 hk, .int .i64 hnn, .string hss, .slice HA l.length lc, .slice F f.length fc] 25)).alloc (Obj.cells #[.int .i64 hx.k, .int .i64 hx.n, .string hx.s, .slice hx.A hx.la hx.lc, .slice hx.F hx.lf hx.fc] 25)).alloc (Obj.cells #[.int .i64 0, .int .i64 0, .string { data := #[] }, .slice none 0 0, .slice none 0 0] 25) := ⟨_, rfl⟩
      have hb2 : Below w.heap.size w wd := by rw [hwd]; exact three_allocs _ _ _ _
      have hsz : wd.heap.size = w.heap.size + 3 := by rw [hwd]; simp
      have hbox : wd.rowIs w.heap.size 25 5 (hdAt ⟨hk, hnn, hss, HA, l.length, lc, F, f.length, fc⟩) := by
        rw [hwd]
        refine hdAt_row ?_
        rw [Below.heap_alloc _ _ _ (by simp; omega), Below.heap_alloc _ _ _ (by simp)]
        exact heap_alloc_new _ _
      have hbxx : wd.rowIs (w.heap.size + 1) 25 5 (hdAt hx) := by
        rw [hwd]
        refine hdAt_row ?_
        rw [Below.heap_alloc _ _ _ (by simp)]
        have h9 := heap_alloc_new (w.alloc (Obj.cells #[.int .i64 hk, .int .i64 hnn, .string hss, .slice HA l.length lc, .slice F f.length fc] 25)) (Obj.cells #[.int .i64 hx.k, .int .i64 hx.n, .string hx.s, .slice hx.A hx.la hx.lc, .slice hx.F hx.lf hx.fc] 25)
        rwa [World.size_alloc] at h9
      have hres : wd.rowIs (w.heap.size + 1 + 1) 25 5 zeroRes := by
        rw [hwd]
        refine hdAt_row (h := zeroHd) ?_
        have h9 := heap_alloc_new ((w.alloc (Obj.cells #[.int .i64 hk, .int .i64 hnn, .string hss, .slice HA l.length lc, .slice F f.length fc] 25)).alloc (Obj.cells #[.int .i64 hx.k, .int .i64 hx.n, .string hx.s, .slice hx.A hx.la hx.lc, .slice hx.F hx.lf hx.fc] 25)) (Obj.cells #[.int .i64 0, .int .i64 0, .string { data := #[] }, .slice none 0 0, .slice none 0 0] 25)
        rwa [World.size_alloc, World.size_alloc] at h9
      have HWD := Lib.hid hwd
      clear hA hR e2 e3 e5 e6 hok e0 hcn hm hm1 ih hgo hbb hwd hSb HX hgy
      go_enter Try.func113, Try.ntmps113
      go_wp2_with fail
      rw [← HWD.out]
      clear HWD
      obtain ⟨q0, q1, q2⟩ := hat.below hb2 hbl
      have hbld : ad.block < wd.heap.size := by omega
      have hNd : w.heap.size < wd.heap.size := by omega
      have b0 := hbox.cell (show 0 < 5 by decide)
      have b1 := hbox.cell (show 1 < 5 by decide)
      have b2 := hbox.cell (show 2 < 5 by decide)
      have b3 := hbox.cell (show 3 < 5 by decide)
      have b4 := hbox.cell (show 4 < 5 by decide)
      simp only [hdAt, Hd.cells, List.getD_cons_succ, List.getD_cons_zero] at b0 b1 b2 b3 b4
      have Q0 : ∀ x : BlwBy wd, x.now.cell? ad = some (.string s.k) := fun x => x.cellA hbld q0
      have Q1 : ∀ x : BlwBy wd, x.now.cell? ⟨ad.block, ad.off + 1, none⟩ = some (.int .i64 s.a) := fun x => x.cellA (a := ⟨ad.block, ad.off + 1, none⟩) hbld q1
      have Q2 : ∀ x : BlwBy wd, x.now.cell? ⟨ad.block, ad.off + 2, none⟩ = some (.bool s.i) := fun x => x.cellA (a := ⟨ad.block, ad.off + 2, none⟩) hbld q2
      have B0 : ∀ x : BlwBy wd, x.now.cell? ⟨w.heap.size, 0, none⟩ = some (.int .i64 hk) := fun x => x.cell hNd b0
      have B1 : ∀ x : BlwBy wd, x.now.cell? ⟨w.heap.size, 1, none⟩ = some (.int .i64 hnn) := fun x => x.cell hNd b1
      have B2 : ∀ x : BlwBy wd, x.now.cell? ⟨w.heap.size, 2, none⟩ = some (.string hss) := fun x => x.cell hNd b2
      have B3 : ∀ x : BlwBy wd, x.now.cell? ⟨w.heap.size, 3, none⟩ = some (.slice HA l.length lc) := fun x => x.cell hNd b3
      have B4 : ∀ x : BlwBy wd, x.now.cell? ⟨w.heap.size, 4, none⟩ = some (.slice F f.length fc) := fun x => x.cell hNd b4
      have HHd := Lib.hid (HH.out.below hb2 (Nat.le_refl _))
      have KM : Hid (∀ x : BlwBy wd, Calls Try.prog 87 #[.agg #[.int .i64 hk, .int .i64 hnn, .string hss, .slice HA l.length lc, .slice F f.length fc], .agg #[.string s.k, .int .i64 s.a, .bool s.i]] x.now fun e w'' => e = .returned (.int .i64 (mI (subI (.mk hk n t l ks f) s))) ∧ ∃ q : BlwBy wd, w'' = q.now) := Lib.hid (fun x => Calls.below_of (next_ref (.mk hk n t l ks f) S ⟨hk, hnn, hss, HA, l.length, lc, F, f.length, fc⟩ x.now s (HHd.out.below x.bel (Nat.le_refl _)) HSR.out HCN.out))
      have HB2 := Lib.hid hb2
      have HRES := Lib.hid hres
      have HBOX := Lib.hid hbox
      have HBXX := Lib.hid hbxx
      clear hb2 hres hbox hbxx b0 b1 b2 b3 b4
      refine wp_quiet_below (by kernel_rfl) (by kernel_rfl) ?_
      repeat (quiet_step (first | (go_at_call 87; exact KM.out _)))
      refine wpQuiet_nil ?_
      intro w9 hw'
      have hb9 : Below wd.heap.size wd w9 := by obtain ⟨⟨wx, hbx⟩, hw''⟩ := hw'; rw [hw'']; exact hbx
      clear hw'
      have HB9 := Lib.hid (HB2.out.trans (hb9.mono (by omega)))
      have hs9 := hb9.size
      have HRES9 := Lib.hid (rowIs_below HRES.out hb9 (by omega))
      have HBOX9 := Lib.hid (rowIs_below HBOX.out hb9 (by omega))
      have HBXX9 := Lib.hid (rowIs_below HBXX.out hb9 (by omega))
      have r0 := (hb9.cell hbld).trans q0
      have r1 := (hb9.cell (p := ⟨ad.block, ad.off + 1, none⟩) hbld).trans q1
      have r2 := (hb9.cell (p := ⟨ad.block, ad.off + 2, none⟩) hbld).trans q2
      have hbl9 : ad.block < w9.heap.size := by omega
      clear Q0 Q1 Q2 B0 B1 B2 B3 B4 KM HRES HBOX HBXX q0 q1 q2 hb9 HHd HB2
      simp only [mI]
      have hci : (0 : Int) ≤ (i : Int) := by omega
      have hR1 := HRD.out
      simp only [Va.R] at hR1
      obtain ⟨-, hT, -, hRL, hRF⟩ := hR1
      have HRLF := Lib.hid (show RL l (d - 1) ∧ RL f (d - 1) from ⟨hRL, hRF⟩)
      clear hRL hRF
      cases hst : s.i
      · obtain ⟨hil, h4⟩ := HLT.out.2 hst
        obtain rfl : hk = 5 := h4
        obtain rfl : l = [] := by
          have := hT.c3
          cases l with
          | nil => rfl
          | cons a b => exact absurd ⟨by decide, by simp⟩ this
        obtain rfl : n = 0 := by
          have := hT.c1
          by_cases e : n = 0
          · exact e
          · exact absurd ⟨by decide, by decide, e⟩ this
        obtain rfl : t = ByteArray.empty := by
          have := hT.c2
          by_cases e : t.size = 0
          · exact empty_of e
          · exact absurd ⟨by decide, e⟩ this
        have hyl := hyF hst
        have HYL := Lib.hid hyl
        have HST := Lib.hid hst
        have HXC := Lib.hid (Nat.le_trans (cnt_sub (k := 5) (n := 0) (t := ByteArray.empty) (l := []) (ks := ks) (f := f) (.inr (List.mem_of_getElem? hyl))) HCN.out)
        have HOP := Lib.hid HH.out.op
        have b0 := HBOX9.out.cell (show 0 < 5 by decide)
        simp only [hdAt, Hd.cells, List.getD_cons_succ, List.getD_cons_zero] at b0
        clear hT hyl hyF hyL hst
        go_wp2_with fail
        have hbd := one_alloc w9 (Obj.cells #[.int .i64 5, .int .i64 0, .string { data := #[] }, .slice none 0 0, .slice none 0 0] 25)
        have hrow : (w9.alloc (Obj.cells #[.int .i64 5, .int .i64 0, .string { data := #[] }, .slice none 0 0, .slice none 0 0] 25)).rowIs w9.heap.size 25 5 (hdAt ⟨5, 0, ByteArray.empty, none, 0, 0, none, 0, 0⟩) := hdAt_row (h := ⟨5, 0, ByteArray.empty, none, 0, 0, none, 0, 0⟩) (heap_alloc_new _ _)
        have hszd : (w9.alloc (Obj.cells #[.int .i64 5, .int .i64 0, .string { data := #[] }, .slice none 0 0, .slice none 0 0] 25)).heap.size = w9.heap.size + 1 := by simp
        generalize w9.alloc (Obj.cells #[.int .i64 5, .int .i64 0, .string { data := #[] }, .slice none 0 0, .slice none 0 0] 25) = wz at hbd hrow hszd ⊢
        have HBZ := Lib.hid (HB9.out.trans (hbd.mono (by omega)))
        have HRESZ := Lib.hid (rowIs_below HRES9.out hbd (by omega))
        have HBOXZ := Lib.hid (rowIs_below HBOX9.out hbd (by omega))
        have HBXXZ := Lib.hid (rowIs_below HBXX9.out hbd (by omega))
        have HROW := Lib.hid hrow
        clear hbd hrow b0 HB9 HRES9 HBOX9 HBXX9 r0 r1 r2
        have b3 := HBOXZ.out.cell (show 3 < 5 by decide)
        simp only [hdAt, Hd.cells, List.getD_cons_succ, List.getD_cons_zero, List.length_nil] at b3
        go_loopw [9] (fun iv wr => iv = .int .i64 0 ∧ wz = wr) (fun _ _ => 0)
        case atStart => exact ⟨rfl, rfl⟩
        case round =>
         obtain ⟨rfl, rfl⟩ := hrel
         go_wp2_with fail
         clear b3
         go_loopw [11] (fun iv wr2 => ∃ (j : Nat) (us : List (ByteArray × Hd)) (A' : Option Addr) (c' : Nat), iv = .int .i64 j ∧ j ≤ f.length ∧ us.map Prod.fst = ks.take j ∧ LoopZF 5 wz w9.heap.size S (f.set i (putV y p x)) j wr2 us A' c') (fun iv _ => f.length - (intOf iv).toNat)
         case atStart => exact ⟨0, [], none, 0, rfl, Nat.zero_le _, by simp, ⟨Kp.refl _ _, HROW.out, World.ownsRow_nil _ _ _ _, rfl, fun j y u _ hu => by simp at hu⟩⟩
         case round =>
          obtain ⟨j, us, A', c', rfl, hj, hus, hLZ⟩ := hrel
          have HUS := Lib.hid hus
          clear hus
          have HLZ := Lib.hid hLZ
          have hkp := HLZ.out.kp
          have cO := HLZ.out.row.cell (show 4 < 5 by decide)
          have fO := HLZ.out.row.frozen 4
          have hOr := HLZ.out.row.lt
          have hszr := HLZ.out.kp.size
          have HRO := Lib.hid (show some w9.heap.size ≠ (Value.slice A' j c').ownBlock from fun e => by have := own_lo HLZ.out.own e.symm; omega)
          have box := rowIs_below' (B := 0) HBOXZ.out (hkp.block w.heap.size (by omega) HBOXZ.out.lt)
          have bxx := rowIs_below' (B := 0) HBXXZ.out (hkp.block (w.heap.size + 1) (by omega) HBXXZ.out.lt)
          have b4 := box.cell (show 4 < 5 by decide)
          have HBR := Lib.hid (show Below w.heap.size w wr from HBZ.out.trans (hkp.bel.mono (by omega)))
          have hRr : wr.rowIs (w.heap.size + 1 + 1) 25 5 zeroRes := rowIs_below' (B := 0) HRESZ.out (hkp.block (w.heap.size + 1 + 1) (by omega) HRESZ.out.lt)
          have HRR := Lib.hid hRr
          simp only [hdAt, Hd.cells, List.getD_cons_succ, List.getD_cons_zero] at cO b4
          by_cases hlt : j < f.length
          · obtain ⟨xx, hxx⟩ : ∃ xx, f[j]? = some xx := ⟨f[j], List.getElem?_eq_getElem hlt⟩
            obtain ⟨ad2, u, key, hA2, hSad, hab, hkj, hkm, hLu, hat2⟩ := HOP.out.K j xx hxx
            obtain ⟨k0, k1, k2, k3, k4, k5⟩ := hat2.below HBR.out hab
            obtain rfl : F = some ad2 := hA2
            have HKJ := Lib.hid hkj
            have HLu := Lib.hid hLu
            have HXJ := Lib.hid hxx
            by_cases hij : j = i
            · subst hij
              have x0 := bxx.cell (show 0 < 5 by decide)
              have x1 := bxx.cell (show 1 < 5 by decide)
              have x2 := bxx.cell (show 2 < 5 by decide)
              have x3 := bxx.cell (show 3 < 5 by decide)
              have x4 := bxx.cell (show 4 < 5 by decide)
              simp only [hdAt, Hd.cells, List.getD_cons_succ, List.getD_cons_zero] at x0 x1 x2 x3 x4
              clear hLZ hkp hLu hat2 hxx box bxx hRr hkj hkm
              obtain rfl : xx = y := by have h1 := HXJ.out; rw [HYL.out] at h1; injection h1 with h1; exact h1.symm
              go_upto_region 16 with fail
              have hby := one_alloc wr (Obj.cells #[.string key, .int .i64 u.k, .int .i64 u.n, .string u.s, .slice u.A u.la u.lc, .slice u.F u.lf u.fc] 36)
              have hyr : (wr.alloc (Obj.cells #[.string key, .int .i64 u.k, .int .i64 u.n, .string u.s, .slice u.A u.la u.lc, .slice u.F u.lf u.fc] 36)).rowIs wr.heap.size 36 6 (prAt (key, u)) := prAt_row (heap_alloc_new _ _)
              have hsy : (wr.alloc (Obj.cells #[.string key, .int .i64 u.k, .int .i64 u.n, .string u.s, .slice u.A u.la u.lc, .slice u.F u.lf u.fc] 36)).heap.size = wr.heap.size + 1 := by simp
              generalize wr.alloc (Obj.cells #[.string key, .int .i64 u.k, .int .i64 u.n, .string u.s, .slice u.A u.la u.lc, .slice u.F u.lf u.fc] 36) = wy at hby hyr hsy ⊢
              have HBY := Lib.hid hby
              have HBD := Lib.hid (show Below w.heap.size w wy.drew from (HBR.out.trans (hby.mono HBR.out.size)).trans ((Below.refl _ _).drew))
              have HYR := Lib.hid (show ∀ w5, Below wy.drew.heap.size wy.drew w5 → w5.rowIs wr.heap.size 36 6 (prAt (key, u)) from fun w5 hb => rowIs_below hyr.drew hb (show wr.heap.size < wy.heap.size by omega))
              have hN1 : w.heap.size + 1 < wr.heap.size := by omega
              have HS0 : Hid (X5 (w.heap.size + 1) hx wy.drew) := Lib.hid ⟨(hby.cell (p := ⟨w.heap.size + 1, 0, none⟩) hN1).trans x0, (hby.cell (p := ⟨w.heap.size + 1, 1, none⟩) hN1).trans x1, (hby.cell (p := ⟨w.heap.size + 1, 2, none⟩) hN1).trans x2, (hby.cell (p := ⟨w.heap.size + 1, 3, none⟩) hN1).trans x3, (hby.cell (p := ⟨w.heap.size + 1, 4, none⟩) hN1).trans x4⟩
              have HS1 := Lib.hid (show ∀ w5, Below wy.drew.heap.size wy.drew w5 → X5 (w.heap.size + 1) hx w5 from fun w5 hb => X5.blk HS0.out (hb.block _ (show w.heap.size + 1 < wy.heap.size by omega)))
              have HS2 := Lib.hid (show ∀ w5 (v : Hd), Below wy.drew.heap.size wy.drew w5 → X5 (w.heap.size + 1) hx (resP w5 wr.heap.size v) from fun w5 v hb => X5.blk (HS1.out w5 hb) (resP_set _ (by omega)))
              have hld : ldQ = Op.load 25 (Operand.tmp 66) := rfl
              have y0 := hyr.cell (show 0 < 6 by decide)
              have y1 := hyr.cell (show 1 < 6 by decide)
              have y2 := hyr.cell (show 2 < 6 by decide)
              have y3 := hyr.cell (show 3 < 6 by decide)
              have y4 := hyr.cell (show 4 < 6 by decide)
              have y5 := hyr.cell (show 5 < 6 by decide)
              simp only [prAt, pcells, Hd.cells, List.getD_cons_succ, List.getD_cons_zero] at y0 y1 y2 y3 y4 y5
              have HY := Lib.hid (show (f.set j (putV xx p x))[j]? = some (putV xx p x) from List.getElem?_set_self hlt)
              clear hby hyr x0 x1 x2 x3 x4
              have HCL := Lib.hid (IH.out xx u wy.drew (some ⟨ad.block, ad.off + 3, none⟩) (m - 1) (c - 1) (fun b hb => by have := HSb.out b hb; show b < wy.heap.size; omega) (HLu.out.below HBD.out (Nat.le_refl _)) (HXX.out.below HBD.out (Nat.le_refl _)) (by have h := HTL.out.below HBD.out (Nat.le_refl _); rwa [add_pos _ (by decide)] at h) (by have := HPL.out; omega) (by omega) HXC.out (RL_mem HRLF.out.2 (List.mem_of_getElem? HXJ.out)) HGY.out)
              go_wp2_with fail
              rw [show Op.load 25 (Operand.tmp 66) = ldQ from rfl]
              go_region_held3 (fun w' => w'.cell? ⟨w.heap.size + 1, 0, none⟩ = some (.int .i64 hx.k) ∧ w'.cell? ⟨w.heap.size + 1, 1, none⟩ = some (.int .i64 hx.n) ∧ w'.cell? ⟨w.heap.size + 1, 2, none⟩ = some (.string hx.s) ∧ w'.cell? ⟨w.heap.size + 1, 3, none⟩ = some (.slice hx.A hx.la hx.lc) ∧ w'.cell? ⟨w.heap.size + 1, 4, none⟩ = some (.slice hx.F hx.lf hx.fc))
                (first
                  | (with_reducible exact HS2.out _ _ hb5)
                  | (have h7 := HS1.out _ hb5; with_reducible exact h7)
                  | (have h7 := HS0.out; with_reducible exact h7)
                  | fail)
                (first
                  | (go_at_call 113; refine HCL.out.mono ?_; rintro e w5 ⟨h', rfl, hl5, hb5⟩; have y1 := (HYR.out _ hb5).cell (show 1 < 6 by decide); have yf1 := (HYR.out _ hb5).frozen 1; have y2 := (HYR.out _ hb5).cell (show 2 < 6 by decide); have yf2 := (HYR.out _ hb5).frozen 2; have y3 := (HYR.out _ hb5).cell (show 3 < 6 by decide); have yf3 := (HYR.out _ hb5).frozen 3; have y4 := (HYR.out _ hb5).cell (show 4 < 6 by decide); have yf4 := (HYR.out _ hb5).frozen 4; have y5 := (HYR.out _ hb5).cell (show 5 < 6 by decide); have yf5 := (HYR.out _ hb5).frozen 5; have y0 := (HYR.out _ hb5).cell (show 0 < 6 by decide); have HL5 := Lib.hid hl5; have HB5 := Lib.hid hb5; clear hl5; simp only [prAt, pcells, Hd.cells, List.getD_cons_succ, List.getD_cons_zero] at y0 y1 y2 y3 y4 y5)
                  | fail)
              all_goals
                clear y0 y1 y2 y3 y4 y5 yf1 yf2 yf3 yf4 yf5
                have hb5w : Below wr.heap.size wr w5 := HBY.out.trans ((show Below wy.heap.size wy w5 from ((Below.refl _ _).drew).trans HB5.out).mono (by omega))
                have hb6 : Below wr.heap.size wr (((((w5.setCell ⟨wr.heap.size, 1, none⟩ (.int .i64 h'.k)).setCell ⟨wr.heap.size, 2, none⟩ (.int .i64 h'.n)).setCell ⟨wr.heap.size, 3, none⟩ (.string h'.s)).setCell ⟨wr.heap.size, 4, none⟩ (.slice h'.A h'.la h'.lc)).setCell ⟨wr.heap.size, 5, none⟩ (.slice h'.F h'.lf h'.fc)) := resP_below hb5w (Nat.le_refl _)
                have row6 : (((((w5.setCell ⟨wr.heap.size, 1, none⟩ (.int .i64 h'.k)).setCell ⟨wr.heap.size, 2, none⟩ (.int .i64 h'.n)).setCell ⟨wr.heap.size, 3, none⟩ (.string h'.s)).setCell ⟨wr.heap.size, 4, none⟩ (.slice h'.A h'.la h'.lc)).setCell ⟨wr.heap.size, 5, none⟩ (.slice h'.F h'.lf h'.fc)).rowIs wr.heap.size 36 6 (prAt (key, h')) := resP_row (HYR.out _ HB5.out)
                have hs6 : (((((w5.setCell ⟨wr.heap.size, 1, none⟩ (.int .i64 h'.k)).setCell ⟨wr.heap.size, 2, none⟩ (.int .i64 h'.n)).setCell ⟨wr.heap.size, 3, none⟩ (.string h'.s)).setCell ⟨wr.heap.size, 4, none⟩ (.slice h'.A h'.la h'.lc)).setCell ⟨wr.heap.size, 5, none⟩ (.slice h'.F h'.lf h'.fc)).heap.size = w5.heap.size := by simp
                have hk6 : ∀ b, b ≠ wr.heap.size → (((((w5.setCell ⟨wr.heap.size, 1, none⟩ (.int .i64 h'.k)).setCell ⟨wr.heap.size, 2, none⟩ (.int .i64 h'.n)).setCell ⟨wr.heap.size, 3, none⟩ (.string h'.s)).setCell ⟨wr.heap.size, 4, none⟩ (.slice h'.A h'.la h'.lc)).setCell ⟨wr.heap.size, 5, none⟩ (.slice h'.F h'.lf h'.fc)).heap[b]? = w5.heap[b]? := fun b hb => resP_set b hb
                generalize (((((w5.setCell ⟨wr.heap.size, 1, none⟩ (.int .i64 h'.k)).setCell ⟨wr.heap.size, 2, none⟩ (.int .i64 h'.n)).setCell ⟨wr.heap.size, 3, none⟩ (.string h'.s)).setCell ⟨wr.heap.size, 4, none⟩ (.slice h'.A h'.la h'.lc)).setCell ⟨wr.heap.size, 5, none⟩ (.slice h'.F h'.lf h'.fc)) = w6 at hb6 row6 hs6 hk6 ⊢
                have y0 := row6.cell (show 0 < 6 by decide)
                have y1 := row6.cell (show 1 < 6 by decide)
                have y2 := row6.cell (show 2 < 6 by decide)
                have y3 := row6.cell (show 3 < 6 by decide)
                have y4 := row6.cell (show 4 < 6 by decide)
                have y5 := row6.cell (show 5 < 6 by decide)
                simp only [prAt, pcells, Hd.cells, List.getD_cons_succ, List.getD_cons_zero] at y0 y1 y2 y3 y4 y5
                have cO6 := (hb6.cell (p := ⟨w9.heap.size, 4, none⟩) hOr).trans cO
                have fO6 := (hb6.frozen (p := ⟨w9.heap.size, 4, none⟩) hOr).trans fO
                have hO6 : w9.heap.size < w6.heap.size := by have := hb6.size; omega
                have HB6 := Lib.hid hb6
                have HK6 := Lib.hid hk6
                have hs5 : wy.heap.size ≤ w5.heap.size := HB5.out.size
                have HQ := Lib.hid (fun o : Obj => show Below wr.heap.size wr (w6.alloc o) from HB6.out.trans ((one_alloc w6 o).mono HB6.out.size))
                have HS6 := Lib.hid hs6
                have HSY := Lib.hid hsy
                clear hb5w hb6 row6 hk6 hs6 hsy
                go_wp2_with (at_builtin; refine wpList_append_lies _ rfl _ _ 23 rfl wz.heap.size 36 i6 _ 6 96 Try.underlying23 hj0 hy0 hy1 hy2 rfl (by decide) (.slice A' j c') j (us.flatMap pcells) rfl (own_below HLZ.out.own (HQ.out _) (Nat.le_refl _)) ⟨w6.heap.size, 0, none⟩ 1 1 (pcells (key, h')) rfl rfl (news_one _ _ rfl) (by simp [pcells, Hd.cells, Value.oneCell']) (by decide) (by unfold maxLen; omega) (by omega) (Nat.le_trans HLZ.out.kp.size (HQ.out _).size) _ rfl ?_; intro g cap w3 hown3 hgrow3 hat3 hlt3; have cO3 := cur_gr cO (HQ.out _) hgrow3 HRO.out; have fO3 := cur_grf cO fO (HQ.out _) hgrow3 HRO.out)
                refine ⟨⟨j + 1, us ++ [(key, h')], _, _, by go_num, by omega, fst_next HUS.out HKJ.out, HLZ.out.step (by omega) (fun b hb => by have := HSb.out b hb; omega) setc4 HY.out (HQ.out _) ?_ hown3 hgrow3 hat3⟩, by simp [intOf]; omega⟩
                exact liesY HL5.out HSY.out (by have := HS6.out; simp; omega) (by omega) (fun b hb => by have := HSb.out b hb; omega) (fun b hb => own_lo HLZ.out.own hb) (fun b hb hne => by rw [Below.heap_alloc _ _ _ (by have := HS6.out; omega)]; exact HK6.out b hne)
            · have hne : ((j : Int) == (i : Int)) = false := by simp; omega
              have HY := Lib.hid (show (f.set i (putV y p x))[j]? = some xx by rw [List.getElem?_set_ne (by omega)]; exact hxx)
              clear hLZ hkp hLu hat2 hxx box bxx hRr hkj hkm hij
              go_wp2_with (at_builtin; refine wpList_append_lies _ rfl _ _ 23 rfl wz.heap.size 36 i6 _ 6 96 Try.underlying23 hj0 hy0 hy1 hy2 rfl (by decide) (.slice A' j c') j (us.flatMap pcells) rfl (own_below HLZ.out.own (two_allocs wr _ _) (Nat.le_refl _)) ⟨wr.heap.size + 1, 0, none⟩ 1 1 (pcells (key, u)) rfl rfl (news_two wr _ _ _) (by simp [pcells, Hd.cells, Value.oneCell']) (by decide) (by unfold maxLen; omega) (by omega) (Nat.le_trans HLZ.out.kp.size ((two_allocs wr _ _)).size) _ rfl ?_; intro g cap w3 hown3 hgrow3 hat3 hlt3; have cO3 := cur_gr cO ((two_allocs wr _ _)) hgrow3 HRO.out; have fO3 := cur_grf cO fO ((two_allocs wr _ _)) hgrow3 HRO.out)
              refine ⟨⟨j + 1, us ++ [(key, u)], _, _, by go_num, by omega, fst_next HUS.out HKJ.out, HLZ.out.step (by omega) (fun b hb => by have := HSb.out b hb; omega) setc4 HY.out (two_allocs wr _ _) ?_ hown3 hgrow3 hat3⟩, by simp [intOf]; omega⟩
              refine Lies.keep (fun q hq hl => (HBR.out.trans ((two_allocs wr _ _).mono HBR.out.size)).cell hl) (fun b hb hl => ⟨.inl hb, ?_, fun e => ?_⟩) _ _ HLu.out
              · simp; omega
              · have := own_lo HLZ.out.own e; omega
          · obtain rfl : j = f.length := by omega
            clear hLZ hkp bxx hRr
            have z0 := HRR.out.cell (show 0 < 5 by decide)
            have z1 := HRR.out.cell (show 1 < 5 by decide)
            have z2 := HRR.out.cell (show 2 < 5 by decide)
            have z3 := HRR.out.cell (show 3 < 5 by decide)
            have z4 := HRR.out.cell (show 4 < 5 by decide)
            have g0 := HRR.out.frozen 0
            have g1 := HRR.out.frozen 1
            have g2 := HRR.out.frozen 2
            have g3 := HRR.out.frozen 3
            have g4 := HRR.out.frozen 4
            have o0 := HLZ.out.row.cell (show 0 < 5 by decide)
            have o1 := HLZ.out.row.cell (show 1 < 5 by decide)
            have o2 := HLZ.out.row.cell (show 2 < 5 by decide)
            have o3 := HLZ.out.row.cell (show 3 < 5 by decide)
            have o4 := HLZ.out.row.cell (show 4 < 5 by decide)
            simp only [hdAt, Hd.cells, List.getD_cons_succ, List.getD_cons_zero] at z0 z1 z2 z3 z4 o0 o1 o2 o3 o4
            have HKM : Hid (∀ x ∈ ks, x.size ≤ maxLen) := Lib.hid (by have := HH.out; simp only [Lies] at this; exact this.2.1.2.2.2.1)
            go_wp2_with fail
            refine bodyPost_ret (v := .agg #[.int .i64 5, .int .i64 0, .string ByteArray.empty, .slice none 0 0, .slice A' f.length c']) (by simp [results, Try.results113, go_sem, z0, z1, z2, z3, z4]; try rfl) rfl ?_
            refine ⟨⟨5, 0, ByteArray.empty, none, 0, 0, A', f.length, c'⟩, rfl, ?_, res_below HBR.out (by omega)⟩
            rw [putV_F HSI.out HST.out HYL.out]
            exact HLZ.out.doneF (by simp) (HUS.out.trans (List.take_of_length_le (by have := HE6.out; omega))) HKM.out (by simp; unfold maxLen; omega) (by decide) (by omega) (fun b hb hs => res_set (w := w) b (fun e => by
                rcases hs with h | h
                · have := HSb.out b h; omega
                · omega))
      · obtain ⟨hil, h4⟩ := HLT.out.1 hst
        obtain rfl : hk = 4 := h4
        obtain rfl : f = [] := by
          have := hT.c4
          cases f with
          | nil => rfl
          | cons a b => exact absurd ⟨by decide, by simp⟩ this
        obtain rfl : ks = [] := List.length_eq_zero_iff.1 (by have := HE6.out; simpa using this)
        obtain rfl : n = 0 := by
          have := hT.c1
          by_cases e : n = 0
          · exact e
          · exact absurd ⟨by decide, by decide, e⟩ this
        obtain rfl : t = ByteArray.empty := by
          have := hT.c2
          by_cases e : t.size = 0
          · exact empty_of e
          · exact absurd ⟨by decide, e⟩ this
        have hyl := hyL hst
        have HYL := Lib.hid hyl
        have HST := Lib.hid hst
        have HXC := Lib.hid (Nat.le_trans (cnt_sub (k := 4) (n := 0) (t := ByteArray.empty) (l := l) (ks := []) (f := []) (.inl (List.mem_of_getElem? hyl))) HCN.out)
        have HOP := Lib.hid HH.out.op
        have b0 := HBOX9.out.cell (show 0 < 5 by decide)
        simp only [hdAt, Hd.cells, List.getD_cons_succ, List.getD_cons_zero] at b0
        clear hT hyl hyF hyL hst
        go_wp2_with fail
        have hbd := one_alloc w9 (Obj.cells #[.int .i64 4, .int .i64 0, .string { data := #[] }, .slice none 0 0, .slice none 0 0] 25)
        have hrow : (w9.alloc (Obj.cells #[.int .i64 4, .int .i64 0, .string { data := #[] }, .slice none 0 0, .slice none 0 0] 25)).rowIs w9.heap.size 25 5 (hdAt ⟨4, 0, ByteArray.empty, none, 0, 0, none, 0, 0⟩) := hdAt_row (h := ⟨4, 0, ByteArray.empty, none, 0, 0, none, 0, 0⟩) (heap_alloc_new _ _)
        have hszd : (w9.alloc (Obj.cells #[.int .i64 4, .int .i64 0, .string { data := #[] }, .slice none 0 0, .slice none 0 0] 25)).heap.size = w9.heap.size + 1 := by simp
        generalize w9.alloc (Obj.cells #[.int .i64 4, .int .i64 0, .string { data := #[] }, .slice none 0 0, .slice none 0 0] 25) = wz at hbd hrow hszd ⊢
        have HBZ := Lib.hid (HB9.out.trans (hbd.mono (by omega)))
        have HRESZ := Lib.hid (rowIs_below HRES9.out hbd (by omega))
        have HBOXZ := Lib.hid (rowIs_below HBOX9.out hbd (by omega))
        have HBXXZ := Lib.hid (rowIs_below HBXX9.out hbd (by omega))
        have HROW := Lib.hid hrow
        clear hbd hrow b0 HB9 HRES9 HBOX9 HBXX9 r0 r1 r2
        go_loopw [9] (fun iv wr => ∃ (j : Nat) (us : List Hd) (A' : Option Addr) (c' : Nat), iv = .int .i64 j ∧ j ≤ l.length ∧ LoopZL 4 wz w9.heap.size S (l.set i (putV y p x)) j wr us A' c') (fun iv _ => l.length - (intOf iv).toNat)
        case atStart => exact ⟨0, [], none, 0, rfl, Nat.zero_le _, ⟨Kp.refl _ _, HROW.out, World.ownsRow_nil _ _ _ _, rfl, fun j y u _ hu => by simp at hu⟩⟩
        case round =>
          obtain ⟨j, us, A', c', rfl, hj, hLZ⟩ := hrel
          have HLZ := Lib.hid hLZ
          have hkp := HLZ.out.kp
          have cO := HLZ.out.row.cell (show 3 < 5 by decide)
          have fO := HLZ.out.row.frozen 3
          have hOr := HLZ.out.row.lt
          have hszr := HLZ.out.kp.size
          have HRO := Lib.hid (show some w9.heap.size ≠ (Value.slice A' j c').ownBlock from fun e => by have := own_lo HLZ.out.own e.symm; omega)
          have box := rowIs_below' (B := 0) HBOXZ.out (hkp.block w.heap.size (by omega) HBOXZ.out.lt)
          have bxx := rowIs_below' (B := 0) HBXXZ.out (hkp.block (w.heap.size + 1) (by omega) HBXXZ.out.lt)
          have b3 := box.cell (show 3 < 5 by decide)
          have b4 := box.cell (show 4 < 5 by decide)
          have HBR := Lib.hid (show Below w.heap.size w wr from HBZ.out.trans (hkp.bel.mono (by omega)))
          have hRr : wr.rowIs (w.heap.size + 1 + 1) 25 5 zeroRes := rowIs_below' (B := 0) HRESZ.out (hkp.block (w.heap.size + 1 + 1) (by omega) HRESZ.out.lt)
          have HRR := Lib.hid hRr
          simp only [hdAt, Hd.cells, List.getD_cons_succ, List.getD_cons_zero] at cO b3 b4
          by_cases hlt : j < l.length
          · obtain ⟨xx, hxx⟩ : ∃ xx, l[j]? = some xx := ⟨l[j], List.getElem?_eq_getElem hlt⟩
            obtain ⟨ad2, u, hA2, hSad, hab, hLu, hat2⟩ := HOP.out.L j xx hxx
            obtain ⟨k0, k1, k2, k3, k4⟩ := hat2.below HBR.out hab
            obtain rfl : HA = some ad2 := hA2
            have HLu := Lib.hid hLu
            have HXJ := Lib.hid hxx
            by_cases hij : j = i
            · subst hij
              have x0 := bxx.cell (show 0 < 5 by decide)
              have x1 := bxx.cell (show 1 < 5 by decide)
              have x2 := bxx.cell (show 2 < 5 by decide)
              have x3 := bxx.cell (show 3 < 5 by decide)
              have x4 := bxx.cell (show 4 < 5 by decide)
              simp only [hdAt, Hd.cells, List.getD_cons_succ, List.getD_cons_zero] at x0 x1 x2 x3 x4
              clear hLZ hkp hLu hat2 hxx box bxx hRr
              obtain rfl : xx = y := by have h1 := HXJ.out; rw [HYL.out] at h1; injection h1 with h1; exact h1.symm
              go_upto_region 9 with fail
              have hby := one_alloc wr (Obj.cells #[.int .i64 u.k, .int .i64 u.n, .string u.s, .slice u.A u.la u.lc, .slice u.F u.lf u.fc] 25)
              have hyr : (wr.alloc (Obj.cells #[.int .i64 u.k, .int .i64 u.n, .string u.s, .slice u.A u.la u.lc, .slice u.F u.lf u.fc] 25)).rowIs wr.heap.size 25 5 (hdAt u) := hdAt_row (heap_alloc_new _ _)
              have hsy : (wr.alloc (Obj.cells #[.int .i64 u.k, .int .i64 u.n, .string u.s, .slice u.A u.la u.lc, .slice u.F u.lf u.fc] 25)).heap.size = wr.heap.size + 1 := by simp
              generalize wr.alloc (Obj.cells #[.int .i64 u.k, .int .i64 u.n, .string u.s, .slice u.A u.la u.lc, .slice u.F u.lf u.fc] 25) = wy at hby hyr hsy ⊢
              have HBY := Lib.hid hby
              have HBD := Lib.hid (show Below w.heap.size w wy.drew from (HBR.out.trans (hby.mono HBR.out.size)).trans ((Below.refl _ _).drew))
              have HYR := Lib.hid (show ∀ w5, Below wy.drew.heap.size wy.drew w5 → w5.rowIs wr.heap.size 25 5 (hdAt u) from fun w5 hb => rowIs_below hyr.drew hb (show wr.heap.size < wy.heap.size by omega))
              have hN1 : w.heap.size + 1 < wr.heap.size := by omega
              have HS0 : Hid (X5 (w.heap.size + 1) hx wy.drew) := Lib.hid ⟨(hby.cell (p := ⟨w.heap.size + 1, 0, none⟩) hN1).trans x0, (hby.cell (p := ⟨w.heap.size + 1, 1, none⟩) hN1).trans x1, (hby.cell (p := ⟨w.heap.size + 1, 2, none⟩) hN1).trans x2, (hby.cell (p := ⟨w.heap.size + 1, 3, none⟩) hN1).trans x3, (hby.cell (p := ⟨w.heap.size + 1, 4, none⟩) hN1).trans x4⟩
              have HS1 := Lib.hid (show ∀ w5, Below wy.drew.heap.size wy.drew w5 → X5 (w.heap.size + 1) hx w5 from fun w5 hb => X5.blk HS0.out (hb.block _ (show w.heap.size + 1 < wy.heap.size by omega)))
              have HS2 := Lib.hid (show ∀ w5 (v : Hd), Below wy.drew.heap.size wy.drew w5 → X5 (w.heap.size + 1) hx (resW w5 wr.heap.size v) from fun w5 v hb => X5.blk (HS1.out w5 hb) (res_set (w := w) _ (by omega)))
              have hld : ldY = Op.load 25 (Operand.tmp 10) := rfl
              have y0 := hyr.cell (show 0 < 5 by decide)
              have y1 := hyr.cell (show 1 < 5 by decide)
              have y2 := hyr.cell (show 2 < 5 by decide)
              have y3 := hyr.cell (show 3 < 5 by decide)
              have y4 := hyr.cell (show 4 < 5 by decide)
              simp only [hdAt, Hd.cells, List.getD_cons_succ, List.getD_cons_zero] at y0 y1 y2 y3 y4
              have HY := Lib.hid (show (l.set j (putV xx p x))[j]? = some (putV xx p x) from List.getElem?_set_self hlt)
              clear hby hyr x0 x1 x2 x3 x4
              have HCL := Lib.hid (IH.out xx u wy.drew (some ⟨ad.block, ad.off + 3, none⟩) (m - 1) (c - 1) (fun b hb => by have := HSb.out b hb; show b < wy.heap.size; omega) (HLu.out.below HBD.out (Nat.le_refl _)) (HXX.out.below HBD.out (Nat.le_refl _)) (by have h := HTL.out.below HBD.out (Nat.le_refl _); rwa [add_pos _ (by decide)] at h) (by have := HPL.out; omega) (by omega) HXC.out (RL_mem HRLF.out.1 (List.mem_of_getElem? HXJ.out)) HGY.out)
              go_wp2_with fail
              rw [show Op.load 25 (Operand.tmp 10) = ldY from rfl]
              go_region_held3 (fun w' => w'.cell? ⟨w.heap.size + 1, 0, none⟩ = some (.int .i64 hx.k) ∧ w'.cell? ⟨w.heap.size + 1, 1, none⟩ = some (.int .i64 hx.n) ∧ w'.cell? ⟨w.heap.size + 1, 2, none⟩ = some (.string hx.s) ∧ w'.cell? ⟨w.heap.size + 1, 3, none⟩ = some (.slice hx.A hx.la hx.lc) ∧ w'.cell? ⟨w.heap.size + 1, 4, none⟩ = some (.slice hx.F hx.lf hx.fc))
                (first
                  | (with_reducible exact HS2.out _ _ hb5)
                  | (have h7 := HS1.out _ hb5; with_reducible exact h7)
                  | (have h7 := HS0.out; with_reducible exact h7)
                  | fail)
                (first
                  | (go_at_call 113; refine HCL.out.mono ?_; rintro e w5 ⟨h', rfl, hl5, hb5⟩; have y0 := (HYR.out _ hb5).cell (show 0 < 5 by decide); have yf0 := (HYR.out _ hb5).frozen 0; have y1 := (HYR.out _ hb5).cell (show 1 < 5 by decide); have yf1 := (HYR.out _ hb5).frozen 1; have y2 := (HYR.out _ hb5).cell (show 2 < 5 by decide); have yf2 := (HYR.out _ hb5).frozen 2; have y3 := (HYR.out _ hb5).cell (show 3 < 5 by decide); have yf3 := (HYR.out _ hb5).frozen 3; have y4 := (HYR.out _ hb5).cell (show 4 < 5 by decide); have yf4 := (HYR.out _ hb5).frozen 4; have HL5 := Lib.hid hl5; have HB5 := Lib.hid hb5; clear hl5; simp only [hdAt, Hd.cells, List.getD_cons_succ, List.getD_cons_zero] at y0 y1 y2 y3 y4)
                  | fail)
              all_goals
                clear y0 y1 y2 y3 y4 yf0 yf1 yf2 yf3 yf4
                have hb5w : Below wr.heap.size wr w5 := HBY.out.trans ((show Below wy.heap.size wy w5 from ((Below.refl _ _).drew).trans HB5.out).mono (by omega))
                have hb6 : Below wr.heap.size wr (((((w5.setCell ⟨wr.heap.size, 0, none⟩ (.int .i64 h'.k)).setCell ⟨wr.heap.size, 1, none⟩ (.int .i64 h'.n)).setCell ⟨wr.heap.size, 2, none⟩ (.string h'.s)).setCell ⟨wr.heap.size, 3, none⟩ (.slice h'.A h'.la h'.lc)).setCell ⟨wr.heap.size, 4, none⟩ (.slice h'.F h'.lf h'.fc)) := res_below hb5w (Nat.le_refl _)
                have row6 := resW_row (HYR.out _ HB5.out) (u := h')
                have hs6 : (((((w5.setCell ⟨wr.heap.size, 0, none⟩ (.int .i64 h'.k)).setCell ⟨wr.heap.size, 1, none⟩ (.int .i64 h'.n)).setCell ⟨wr.heap.size, 2, none⟩ (.string h'.s)).setCell ⟨wr.heap.size, 3, none⟩ (.slice h'.A h'.la h'.lc)).setCell ⟨wr.heap.size, 4, none⟩ (.slice h'.F h'.lf h'.fc)).heap.size = w5.heap.size := by simp
                have hk6 : ∀ b, b ≠ wr.heap.size → (((((w5.setCell ⟨wr.heap.size, 0, none⟩ (.int .i64 h'.k)).setCell ⟨wr.heap.size, 1, none⟩ (.int .i64 h'.n)).setCell ⟨wr.heap.size, 2, none⟩ (.string h'.s)).setCell ⟨wr.heap.size, 3, none⟩ (.slice h'.A h'.la h'.lc)).setCell ⟨wr.heap.size, 4, none⟩ (.slice h'.F h'.lf h'.fc)).heap[b]? = w5.heap[b]? := fun b hb => res_set (w := w) b hb
                generalize (((((w5.setCell ⟨wr.heap.size, 0, none⟩ (.int .i64 h'.k)).setCell ⟨wr.heap.size, 1, none⟩ (.int .i64 h'.n)).setCell ⟨wr.heap.size, 2, none⟩ (.string h'.s)).setCell ⟨wr.heap.size, 3, none⟩ (.slice h'.A h'.la h'.lc)).setCell ⟨wr.heap.size, 4, none⟩ (.slice h'.F h'.lf h'.fc)) = w6 at hb6 row6 hs6 hk6 ⊢
                have y0 := row6.cell (show 0 < 5 by decide)
                have y1 := row6.cell (show 1 < 5 by decide)
                have y2 := row6.cell (show 2 < 5 by decide)
                have y3 := row6.cell (show 3 < 5 by decide)
                have y4 := row6.cell (show 4 < 5 by decide)
                simp only [hdAt, Hd.cells, List.getD_cons_succ, List.getD_cons_zero] at y0 y1 y2 y3 y4
                have cO6 := (hb6.cell (p := ⟨w9.heap.size, 3, none⟩) hOr).trans cO
                have fO6 := (hb6.frozen (p := ⟨w9.heap.size, 3, none⟩) hOr).trans fO
                have hO6 : w9.heap.size < w6.heap.size := by have := hb6.size; omega
                have HB6 := Lib.hid hb6
                have HK6 := Lib.hid hk6
                have hs5 : wy.heap.size ≤ w5.heap.size := HB5.out.size
                have HQ := Lib.hid (fun o : Obj => show Below wr.heap.size wr (w6.alloc o) from HB6.out.trans ((one_alloc w6 o).mono HB6.out.size))
                have HS6 := Lib.hid hs6
                have HSY := Lib.hid hsy
                clear hb5w hb6 row6 hk6 hs6 hsy
                go_wp2_with (at_builtin; refine wpList_append_lies _ rfl _ _ 22 rfl wz.heap.size 25 i0 _ 5 80 Try.underlying22 hi0 hz0 hz1 hz2 rfl (by decide) (.slice A' j c') j (us.flatMap Hd.cells) rfl (own_below HLZ.out.own (HQ.out _) (Nat.le_refl _)) ⟨w6.heap.size, 0, none⟩ 1 1 (Hd.cells h') rfl rfl (news_one _ _ rfl) (by simp [Hd.cells, Value.oneCell']) (by decide) (by unfold maxLen; omega) (by omega) (Nat.le_trans HLZ.out.kp.size (HQ.out _).size) _ rfl ?_; intro g cap w3 hown3 hgrow3 hat3 hlt3; have cO3 := cur_gr cO (HQ.out _) hgrow3 HRO.out; have fO3 := cur_grf cO fO (HQ.out _) hgrow3 HRO.out)
                refine ⟨⟨j + 1, us ++ [h'], _, _, by go_num, by omega, HLZ.out.step (by omega) (fun b hb => by have := HSb.out b hb; omega) setc3 HY.out (HQ.out _) ?_ hown3 hgrow3 hat3⟩, by simp [intOf]; omega⟩
                exact liesY HL5.out HSY.out (by have := HS6.out; simp; omega) (by omega) (fun b hb => by have := HSb.out b hb; omega) (fun b hb => own_lo HLZ.out.own hb) (fun b hb hne => by rw [Below.heap_alloc _ _ _ (by have := HS6.out; omega)]; exact HK6.out b hne)
            · have hne : ((j : Int) == (i : Int)) = false := by simp; omega
              have HY := Lib.hid (show (l.set i (putV y p x))[j]? = some xx by rw [List.getElem?_set_ne (by omega)]; exact hxx)
              clear hLZ hkp hLu hat2 hxx box bxx hRr hij
              go_wp2_with (at_builtin; refine wpList_append_lies _ rfl _ _ 22 rfl wz.heap.size 25 i0 _ 5 80 Try.underlying22 hi0 hz0 hz1 hz2 rfl (by decide) (.slice A' j c') j (us.flatMap Hd.cells) rfl (own_below HLZ.out.own (two_allocs wr _ _) (Nat.le_refl _)) ⟨wr.heap.size + 1, 0, none⟩ 1 1 (Hd.cells u) rfl rfl (news_two wr _ _ _) (by simp [Hd.cells, Value.oneCell']) (by decide) (by unfold maxLen; omega) (by omega) (Nat.le_trans HLZ.out.kp.size ((two_allocs wr _ _)).size) _ rfl ?_; intro g cap w3 hown3 hgrow3 hat3 hlt3; have cO3 := cur_gr cO ((two_allocs wr _ _)) hgrow3 HRO.out; have fO3 := cur_grf cO fO ((two_allocs wr _ _)) hgrow3 HRO.out)
              refine ⟨⟨j + 1, us ++ [u], _, _, by go_num, by omega, HLZ.out.step (by omega) (fun b hb => by have := HSb.out b hb; omega) setc3 HY.out (two_allocs wr _ _) ?_ hown3 hgrow3 hat3⟩, by simp [intOf]; omega⟩
              refine Lies.keep (fun q hq hl => (HBR.out.trans ((two_allocs wr _ _).mono HBR.out.size)).cell hl) (fun b hb hl => ⟨.inl hb, ?_, fun e => ?_⟩) _ _ HLu.out
              · simp; omega
              · have := own_lo HLZ.out.own e; omega
          · obtain rfl : j = l.length := by omega
            clear hLZ hkp bxx hRr
            simp only [List.length_nil] at b4
            have HBX := Lib.hid (show wr.cell? ⟨w.heap.size, 4, none⟩ = some (.slice F 0 fc) from b4)
            go_wp2_with fail
            go_loopw [11] (fun iv wr' => iv = .int .i64 0 ∧ wr' = wr) (fun _ _ => 0)
            case atStart => exact ⟨rfl, rfl⟩
            case round =>
              obtain ⟨rfl, rfl⟩ := hrel
              have z0 := HRR.out.cell (show 0 < 5 by decide)
              have z1 := HRR.out.cell (show 1 < 5 by decide)
              have z2 := HRR.out.cell (show 2 < 5 by decide)
              have z3 := HRR.out.cell (show 3 < 5 by decide)
              have z4 := HRR.out.cell (show 4 < 5 by decide)
              have g0 := HRR.out.frozen 0
              have g1 := HRR.out.frozen 1
              have g2 := HRR.out.frozen 2
              have g3 := HRR.out.frozen 3
              have g4 := HRR.out.frozen 4
              have o0 := HLZ.out.row.cell (show 0 < 5 by decide)
              have o1 := HLZ.out.row.cell (show 1 < 5 by decide)
              have o2 := HLZ.out.row.cell (show 2 < 5 by decide)
              have o3 := HLZ.out.row.cell (show 3 < 5 by decide)
              have o4 := HLZ.out.row.cell (show 4 < 5 by decide)
              simp only [hdAt, Hd.cells, List.getD_cons_succ, List.getD_cons_zero] at z0 z1 z2 z3 z4 o0 o1 o2 o3 o4
              go_wp2_with fail
              refine bodyPost_ret (v := .agg #[.int .i64 4, .int .i64 0, .string ByteArray.empty, .slice A' l.length c', .slice none 0 0]) (by simp [results, Try.results113, go_sem, z0, z1, z2, z3, z4]; try rfl) rfl ?_
              refine ⟨⟨4, 0, ByteArray.empty, A', l.length, c', none, 0, 0⟩, rfl, ?_, res_below HBR.out (by omega)⟩
              rw [putV_L HSI.out HST.out HYL.out]
              exact HLZ.out.doneL (by simp) (by simp; unfold maxLen; omega) (by decide) (by omega) (fun b hb hs => res_set (w := w) b (fun e => by
                rcases hs with h | h
                · have := HSb.out b h; omega
                · omega))
end Go.Proofs.Ytmdlcalnncncjaa
