/- What the reference's Sorted leaves, step by step: the pairs. -/
import Derived.Test.YtmdlcalnncncjaaTSrtL
import Derived.Test.YtmdlcalnncncjaaTWithPr
import Derived.Deep.AppendSrc
import Derived.Deep.AppendLies
set_option linter.unusedVariables false
set_option linter.unusedSimpArgs false
namespace Go.Proofs.Ytmdlcalnncncjaa
open Go.RowKit
/-- The loop over the pairs. -/
structure LoopG (wd : World) (W : Nat) (hw : Hd) (qs : List (ByteArray × Va)) (i : Nat) (wt : World) (vs : List (ByteArray × Hd)) (F' : Option Addr) (d' : Nat) : Prop where
  hi : i ≤ qs.length
  kp : Kp W wd wt
  row : wt.rowIs W 25 5 (hdAt ⟨hw.k, hw.n, hw.s, hw.A, hw.la, hw.lc, F', i, d'⟩)
  own : wt.ownsRow wd.heap.size 36 6 (.slice F' i d') i (vs.flatMap pcells)
  keys : vs.map Prod.fst = (srtP (qs.take i)).map Prod.fst
  lie : ∀ (j : Nat) p v, (srtP (qs.take i))[j]? = some p → vs[j]? = some v → Lies wt (fun b => wd.heap.size ≤ b) p.2 v.2
/-- The load of out.L in the drawn statement, under a name. -/
def ldS : Op := Op.load 22 (Operand.tmp 23)
/-- What the drawn statement of an element loads. -/
def SE (X : Nat) (sl : Value) (q : Addr) (u : Hd) (w : World) : Prop := w.cell? ⟨X, 3, none⟩ = some sl ∧ At5 w q u
theorem SE.imp {X : Nat} {sl : Value} {q : Addr} {u : Hd} {w w' : World} (h : SE X sl q u w) (hX : w'.heap[X]? = w.heap[X]?) (hq : w'.heap[q.block]? = w.heap[q.block]?) : SE X sl q u w' :=
  ⟨(World.cell?_of_block (a := ⟨X, 3, none⟩) hX).trans h.1, (World.cell?_of_block (a := q) hq).trans h.2.1, (World.cell?_of_block (a := ⟨q.block, _, none⟩) hq).trans h.2.2.1, (World.cell?_of_block (a := ⟨q.block, _, none⟩) hq).trans h.2.2.2.1, (World.cell?_of_block (a := ⟨q.block, _, none⟩) hq).trans h.2.2.2.2.1, (World.cell?_of_block (a := ⟨q.block, _, none⟩) hq).trans h.2.2.2.2.2⟩
theorem SE.ltX {X : Nat} {sl : Value} {q : Addr} {u : Hd} {w : World} (h : SE X sl q u w) : X < w.heap.size := World.block_lt_of_cell? w _ h.1
theorem SE.ltq {X : Nat} {sl : Value} {q : Addr} {u : Hd} {w : World} (h : SE X sl q u w) : q.block < w.heap.size := World.block_lt_of_cell? w _ h.2.1
theorem SE.call {X : Nat} {sl : Value} {q : Addr} {u : Hd} {w w2 : World} (h : SE X sl q u w) (hb : Below w.drew.heap.size w.drew w2) : SE X sl q u w2 := h.imp (hb.block _ h.ltX) (hb.block _ h.ltq)
theorem SE.alloc {X : Nat} {sl : Value} {q : Addr} {u : Hd} {w : World} (h : SE X sl q u w) (o : Obj) : SE X sl q u (w.alloc o) := h.imp (Below.heap_alloc _ _ _ h.ltX) (Below.heap_alloc _ _ _ h.ltq)
theorem SE.grown {X : Nat} {sl : Value} {q : Addr} {u : Hd} {w w' : World} {row : Option Nat} (h : SE X sl q u w) (hg : w.grownBy w' row) (h1 : some X ≠ row) (h2 : some q.block ≠ row) : SE X sl q u w' := h.imp (hg.block _ h.ltX h1) (hg.block _ h.ltq h2)
theorem SE.set {X W o : Nat} {sl : Value} {q : Addr} {u : Hd} {w : World} (h : SE X sl q u w) (h1 : X ≠ W) (h2 : q.block ≠ W) (v : Value) : SE X sl q u (w.setCell ⟨W, o, none⟩ v) := h.imp (Below.heap_setCell _ _ _ _ h1) (Below.heap_setCell _ _ _ _ h2)
/-- What the drawn statement of a pair loads. -/
abbrev SG (X : Nat) (sl : Value) (q : Addr) (key : ByteArray) (u : Hd) (w' : World) : Prop := w'.cell? ⟨X, 4, none⟩ = some sl ∧ w'.cell? q = some (.string key) ∧ w'.cell? ⟨q.block, q.off + 1, none⟩ = some (.int .i64 u.k) ∧ w'.cell? ⟨q.block, q.off + 2, none⟩ = some (.int .i64 u.n) ∧ w'.cell? ⟨q.block, q.off + 3, none⟩ = some (.string u.s) ∧ w'.cell? ⟨q.block, q.off + 4, none⟩ = some (.slice u.A u.la u.lc) ∧ w'.cell? ⟨q.block, q.off + 5, none⟩ = some (.slice u.F u.lf u.fc)
theorem SG.imp {X : Nat} {sl : Value} {q : Addr} {key : ByteArray} {u : Hd} {w w' : World} (h : SG X sl q key u w) (hX : w'.heap[X]? = w.heap[X]?) (hq : w'.heap[q.block]? = w.heap[q.block]?) : SG X sl q key u w' :=
  ⟨(World.cell?_of_block (a := ⟨X, 4, none⟩) hX).trans h.1, (World.cell?_of_block (a := q) hq).trans h.2.1, (World.cell?_of_block (a := ⟨q.block, _, none⟩) hq).trans h.2.2.1, (World.cell?_of_block (a := ⟨q.block, _, none⟩) hq).trans h.2.2.2.1, (World.cell?_of_block (a := ⟨q.block, _, none⟩) hq).trans h.2.2.2.2.1, (World.cell?_of_block (a := ⟨q.block, _, none⟩) hq).trans h.2.2.2.2.2.1, (World.cell?_of_block (a := ⟨q.block, _, none⟩) hq).trans h.2.2.2.2.2.2⟩
theorem SG.ltX {X : Nat} {sl : Value} {q : Addr} {key : ByteArray} {u : Hd} {w : World} (h : SG X sl q key u w) : X < w.heap.size := World.block_lt_of_cell? w _ h.1
theorem SG.ltq {X : Nat} {sl : Value} {q : Addr} {key : ByteArray} {u : Hd} {w : World} (h : SG X sl q key u w) : q.block < w.heap.size := World.block_lt_of_cell? w _ h.2.1
theorem SG.call {X : Nat} {sl : Value} {q : Addr} {key : ByteArray} {u : Hd} {w w2 : World} (h : SG X sl q key u w) (hb : Below w.drew.heap.size w.drew w2) : SG X sl q key u w2 := h.imp (hb.block _ h.ltX) (hb.block _ h.ltq)
theorem SG.alloc {X : Nat} {sl : Value} {q : Addr} {key : ByteArray} {u : Hd} {w : World} (h : SG X sl q key u w) (o : Obj) : SG X sl q key u (w.alloc o) := h.imp (Below.heap_alloc _ _ _ h.ltX) (Below.heap_alloc _ _ _ h.ltq)
theorem SG.callB {X : Nat} {sl : Value} {q : Addr} {key : ByteArray} {u : Hd} {w w1 : World} {o : Obj} (h : ∀ o, SG X sl q key u (w.alloc o).drew) (hb : Below (w.alloc o).drew.heap.size (w.alloc o).drew w1) : SG X sl q key u w1 := SG.imp (h o) (hb.block _ (h o).ltX) (hb.block _ (h o).ltq)
theorem SG.callC {X : Nat} {sl : Value} {q : Addr} {key : ByteArray} {u : Hd} {w w1 : World} {o : Obj} (h : ∀ o, SG X sl q key u (w.drew.alloc o)) (hb : Below (w.drew.alloc o).heap.size (w.drew.alloc o) w1) : SG X sl q key u w1 := SG.imp (h o) (hb.block _ (h o).ltX) (hb.block _ (h o).ltq)
theorem SG.set6 {X N : Nat} {sl : Value} {q : Addr} {key : ByteArray} {u : Hd} {w : World} (h : SG X sl q key u w) (h1 : X ≠ N) (h2 : q.block ≠ N) (v0 v1 v2 v3 v4 v5 : Value) :
    SG X sl q key u ((((((w.setCell ⟨N, 0, none⟩ v0).setCell ⟨N, 1, none⟩ v1).setCell ⟨N, 2, none⟩ v2).setCell ⟨N, 3, none⟩ v3).setCell ⟨N, 4, none⟩ v4).setCell ⟨N, 5, none⟩ v5) := by
  refine h.imp ?_ ?_
  · rw [Below.heap_setCell _ _ _ _ h1, Below.heap_setCell _ _ _ _ h1, Below.heap_setCell _ _ _ _ h1, Below.heap_setCell _ _ _ _ h1, Below.heap_setCell _ _ _ _ h1, Below.heap_setCell _ _ _ _ h1]
  · rw [Below.heap_setCell _ _ _ _ h2, Below.heap_setCell _ _ _ _ h2, Below.heap_setCell _ _ _ _ h2, Below.heap_setCell _ _ _ _ h2, Below.heap_setCell _ _ _ _ h2, Below.heap_setCell _ _ _ _ h2]
/-- Behind the statement of a pair: p lies at P. -/
structure AftP (wr : World) (P : Nat) (key : ByteArray) (y : Va) (h' : Hd) (wp : World) : Prop where
  bel : Below wr.heap.size wr wp
  lo : wr.heap.size ≤ P
  cel : ∀ (j : Nat) c, (pcells (key, h'))[j]? = some c → wp.cell? ⟨P, j, none⟩ = some c
  lt : P < wp.heap.size
  lie : Lies wp (fun b => wr.heap.size ≤ b) y h'
theorem aftA {wr w1 : World} {key : ByteArray} {y : Va} {h' : Hd} (hb1 : Below wr.drew.heap.size wr.drew w1) (hl : Lies w1 (fun b => wr.drew.heap.size ≤ b) y h') : AftP wr w1.heap.size key y h' (w1.alloc (Obj.cells #[.string key, .int .i64 h'.k, .int .i64 h'.n, .string h'.s, .slice h'.A h'.la h'.lc, .slice h'.F h'.lf h'.fc] 36)) := by
  have hb : Below wr.heap.size wr w1 := ((Below.refl _ _).drew).trans hb1
  refine ⟨hb.alloc hb.size _, hb.size, fun j c hc => ?_, by simp, hl.below (one_alloc w1 _) (Nat.le_refl _)⟩
  exact (World.cell?_alloc_new w1 _ _ j).trans (by rw [← hc]; simp [pcells, Hd.cells])
theorem aftB {wr w1 : World} {key : ByteArray} {y : Va} {h' : Hd} {cs : Array Value} (hcs : cs.size = 6) (hb1 : Below (wr.alloc (Obj.cells cs 36)).drew.heap.size (wr.alloc (Obj.cells cs 36)).drew w1) (hl : Lies w1 (fun b => (wr.alloc (Obj.cells cs 36)).drew.heap.size ≤ b) y h') :
    AftP wr wr.heap.size key y h' ((((((w1.setCell ⟨wr.heap.size, 0, none⟩ (.string key)).setCell ⟨wr.heap.size, 1, none⟩ (.int .i64 h'.k)).setCell ⟨wr.heap.size, 2, none⟩ (.int .i64 h'.n)).setCell ⟨wr.heap.size, 3, none⟩ (.string h'.s)).setCell ⟨wr.heap.size, 4, none⟩ (.slice h'.A h'.la h'.lc)).setCell ⟨wr.heap.size, 5, none⟩ (.slice h'.F h'.lf h'.fc)) := by
  have hb1' : Below (wr.alloc (Obj.cells cs 36)).heap.size (wr.alloc (Obj.cells cs 36)) w1 := ((Below.refl _ _).drew).trans hb1
  have hb : Below wr.heap.size wr w1 := (after_alloc hb1').1
  have hsz := hb1'.size
  simp only [World.size_alloc] at hsz
  have hr : w1.rowIs wr.heap.size 36 6 (fun i => cs.getD i undef) := by
    refine ⟨cs, ?_, hcs, fun i hi => ?_⟩
    · exact (hb1'.block wr.heap.size (by simp)).trans (heap_alloc_new wr _)
    · have : i < cs.size := by omega
      simp [Array.getD, this]
  have hr6 := (((((hr.set 0 (.string key)).set 1 (.int .i64 h'.k)).set 2 (.int .i64 h'.n)).set 3 (.string h'.s)).set 4 (.slice h'.A h'.la h'.lc)).set 5 (.slice h'.F h'.lf h'.fc)
  refine ⟨(((((hb.setCell (Nat.le_refl _) _).setCell (Nat.le_refl _) _).setCell (Nat.le_refl _) _).setCell (Nat.le_refl _) _).setCell (Nat.le_refl _) _).setCell (Nat.le_refl _) _, Nat.le_refl _, fun j c hc => ?_, hr6.lt, ?_⟩
  · have hj : j < 6 := (List.getElem?_eq_some_iff.1 hc).1
    rw [hr6.cell hj]
    match j, hj with
    | 0, _ => simpa [pcells, Hd.cells] using hc
    | 1, _ => simpa [pcells, Hd.cells] using hc
    | 2, _ => simpa [pcells, Hd.cells] using hc
    | 3, _ => simpa [pcells, Hd.cells] using hc
    | 4, _ => simpa [pcells, Hd.cells] using hc
    | 5, _ => simpa [pcells, Hd.cells] using hc
  · refine Lies.keep (fun p (hp : (wr.alloc (Obj.cells cs 36)).heap.size ≤ p.block) _ => World.cell?_of_block ?_) (fun b (hb9 : (wr.alloc (Obj.cells cs 36)).heap.size ≤ b) _ => ?_) y h' hl
    · have hn : p.block ≠ wr.heap.size := by simp only [World.size_alloc] at hp; omega
      rw [Below.heap_setCell _ _ _ _ hn, Below.heap_setCell _ _ _ _ hn, Below.heap_setCell _ _ _ _ hn, Below.heap_setCell _ _ _ _ hn, Below.heap_setCell _ _ _ _ hn, Below.heap_setCell _ _ _ _ hn]
    · simp only [World.size_alloc] at hb9; omega

/-- append of what may be nothing, onto a row of one's own. -/
theorem wpList_append_may {P : Program} (w : World) {ops : Array Oper} {rest : List Oper} {o : Oper} {a : Act} {Q : Exit → Act → World → Prop} (hgd : o.guard = none) (s x : Operand) (t : TypeId)
    (ho : o.op = .call { callee := .builtin .append, args := #[s, x], argTypes := #[t, t] })
    (base : Nat) (e : TypeId) (i : TypeInfo) (z : Value) (size bytes : Nat) (ht : P.underlying t = some (.slice e)) (hi : P.info? e = some i) (hz : i.zero = some z)
    (hsize : i.size = size) (hby : i.bytes = bytes) (hzs : z.cells.size = size) (hsz : 0 < size)
    (v : Value) (n : Nat) (xs : List Value) (hs : a.eval s = v) (hown : w.ownsRow base e size v n xs)
    (B : Option Addr) (m c : Nat) (news : List Value) (hx : a.eval x = .slice B m c) (hl : news.length = m * size)
    (hsrc : (∃ ad, B = some ad ∧ ∀ j u, news[j]? = some u → w.cell? (ad.add j) = some u) ∨ (B = none ∧ m = 0 ∧ news = [])) (h1 : ∀ u ∈ news, u.oneCell' = true)
    (h63 : n + m ≤ maxLen) (hbytes : (n + m) * bytes ≤ 140737488355328) (hbase : base ≤ w.heap.size)
    (h : ∀ v' w', w'.ownsRow base e size v' (n + m) (xs ++ news) → w.grownBy w' v.ownBlock → (v'.ownBlock = v.ownBlock ∨ v'.ownBlock = some w.heap.size) → wpList P ops Q rest (a.put o.dst v') w') :
    wpList P ops Q (o :: rest) a w := by
  rcases hsrc with ⟨ad, rfl, hnews⟩ | ⟨rfl, rfl, rfl⟩
  · exact wpList_append_own_at w hgd s x t ho base e i z size bytes ht hi hz hsize hby hzs hsz v n xs hs hown ad m c news hx hl hnews h1 h63 hbytes hbase fun v' w' a1 a2 _ a4 => h v' w' a1 a2 a4
  · refine wpList_plain hgd fun K hK => ?_
    have hr : (Builtin.append_ #[t, t] o.type #[v, .slice none 0 c]).run P w = .ok v w := by
      rcases hown.2 with ⟨rfl, _⟩ | ⟨g, cap, cur, rfl, _, hh, hle, _, hcs, _⟩
      · have hs0 : Src P i.size t (.slice none 0 c) 0 [] w := Src.ofNil w ht c
        simp [Builtin.append_, run_underlying ht, sizeOf, typeInfo, hi, hs0.len, hs0.cells]
      · have hs0 : Src P i.size t (.slice none 0 c) 0 [] w := Src.ofNil w ht c
        have := run_append_room_src (P := P) w t t o.type e i ht hi g 0 n cap (.slice none 0 c) 0 [] hs0 (by omega) (fun j hj => by simp at hj) (fun j hj => by simp at hj)
        simpa [World.setCells] using this
    unfold Oper.wp execOp
    simp only [ho, resolve, invoke, builtin, Sem.run_bind, Sem.run_pure, Result.andThen_ok, List.map_toArray, List.map_cons, List.map_nil, hs, hx, hr]
    refine hK _ _ (h v w ?_ ⟨rfl, rfl, rfl, Nat.le_refl _, fun _ _ _ => rfl⟩ (.inl rfl))
    simpa using hown
theorem putP_fst {α β : Type} {acc : List (ByteArray × α)} {acc' : List (ByteArray × β)} {key : ByteArray} {x : α} {y : β} (h : acc.map Prod.fst = acc'.map Prod.fst) : (putP acc (key, x)).map Prod.fst = (putP acc' (key, y)).map Prod.fst := by
  simp only [putP, List.map_append, List.map_take, List.map_cons, List.map_drop, h]
theorem putP_rel {α β : Type} {R : (ByteArray × α) → (ByteArray × β) → Prop} {acc : List (ByteArray × α)} {acc' : List (ByteArray × β)} {key : ByteArray} {x : α} {y : β} (h : acc.map Prod.fst = acc'.map Prod.fst)
    (hr : ∀ (j : Nat) p v, acc[j]? = some p → acc'[j]? = some v → R p v) (hx : R (key, x) (key, y)) : ∀ (j : Nat) p v, (putP acc (key, x))[j]? = some p → (putP acc' (key, y))[j]? = some v → R p v := by
  intro j p v hp hv
  have hl : acc.length = acc'.length := by simpa using congrArg List.length h
  have hk := plc_le key (acc'.map Prod.fst)
  simp only [List.length_map] at hk
  simp only [putP, h] at hp hv
  generalize plc (acc'.map Prod.fst) key = k at hp hv hk
  have l1 : (acc.take k).length = k := by rw [List.length_take]; omega
  have l2 : (acc'.take k).length = k := by rw [List.length_take]; omega
  by_cases h1 : j < k
  · rw [List.getElem?_append_left (by omega), List.getElem?_take_of_lt h1] at hp hv
    exact hr j p v hp hv
  · rw [List.getElem?_append_right (by omega), l1] at hp
    rw [List.getElem?_append_right (by omega), l2] at hv
    rcases hj : j - k with _ | m
    · rw [hj] at hp hv
      simp at hp hv
      subst hp
      subst hv
      exact hx
    · rw [hj] at hp hv
      simp only [List.getElem?_cons_succ, List.getElem?_drop] at hp hv
      exact hr _ p v hp hv
theorem flat_split {k : Nat} (vs : List (ByteArray × Hd)) : (vs.take k).flatMap pcells ++ (vs.drop k).flatMap pcells = vs.flatMap pcells := by
  rw [← List.flatMap_append, List.take_append_drop]
theorem flat_len (vs : List (ByteArray × Hd)) : (vs.flatMap pcells).length = vs.length * 6 := by
  induction vs with
  | nil => rfl
  | cons x r ih => rw [List.flatMap_cons, List.length_append, ih, pcells_len, List.length_cons]; omega
theorem flat_one (vs : List (ByteArray × Hd)) : ∀ u ∈ vs.flatMap pcells, u.oneCell' = true := by
  intro u hu
  obtain ⟨x, _, hx⟩ := List.mem_flatMap.1 hu
  simp only [pcells, Hd.cells, List.mem_cons, List.not_mem_nil, or_false] at hx
  rcases hx with rfl | rfl | rfl | rfl | rfl | rfl <;> rfl
/-- The cells of a beginning, of a rest. -/
theorem flat_take_at {vs : List (ByteArray × Hd)} {k j : Nat} {u : Value} (h : ((vs.take k).flatMap pcells)[j]? = some u) : (vs.flatMap pcells)[j]? = some u := by
  rw [← flat_split (k := k) vs, List.getElem?_append_left (List.getElem?_eq_some_iff.1 h).1]
  exact h
theorem flat_drop_at {vs : List (ByteArray × Hd)} {k j : Nat} {u : Value} (hk : k ≤ vs.length) (h : ((vs.drop k).flatMap pcells)[j]? = some u) : (vs.flatMap pcells)[k * 6 + j]? = some u := by
  have l1 : ((vs.take k).flatMap pcells).length = k * 6 := by rw [flat_len, List.length_take]; congr 1; omega
  rw [← flat_split (k := k) vs, List.getElem?_append_right (by omega), l1]
  rw [show k * 6 + j - k * 6 = j by omega]
  exact h
theorem LoopG.len {wd wr : World} {W i : Nat} {hw : Hd} {qs : List (ByteArray × Va)} {vs : List (ByteArray × Hd)} {F' : Option Addr} {d' : Nat} (H : LoopG wd W hw qs i wr vs F' d') : vs.length = i := by
  have h := congrArg List.length H.keys
  rw [List.length_map, List.length_map, srtP_length, List.length_take] at h
  have := H.hi
  omega
/-- A round of the pairs' loop. -/
theorem LoopG.step {wd wr wp wq w3 : World} {W i g cap P d' : Nat} {hw : Hd} {qs : List (ByteArray × Va)} {vs : List (ByteArray × Hd)} {F' : Option Addr} {key : ByteArray} {y : Va} {h' : Hd}
    (H : LoopG wd W hw qs i wr vs F' d') (hW : W < wd.heap.size) (hx : qs[i]? = some (key, y)) (HA : AftP wr P key y h' wp) (hq : Below wp.heap.size wp wq) (h3 : Below wq.heap.size wq w3)
    (hown : w3.ownsRow wq.heap.size 36 6 (.slice (some ⟨g, 0, none⟩) (i + 1) cap) (i + 1) ((putP vs (key, h')).flatMap pcells)) :
    LoopG wd W hw qs (i + 1) (w3.setCell ⟨W, 4, none⟩ (.slice (some ⟨g, 0, none⟩) (i + 1) cap)) (putP vs (key, h')) (some ⟨g, 0, none⟩) cap := by
  have hil : i < qs.length := (List.getElem?_eq_some_iff.1 hx).1
  have s1 := H.kp.size
  have s2 := HA.bel.size
  have s3 := hq.size
  have s4 := h3.size
  have hall : Below wr.heap.size wr w3 := HA.bel.trans ((hq.mono s2).trans (h3.mono (by omega)))
  have hg := own_lo hown (g := g) rfl
  have hgW : g ≠ W := by omega
  have set_blk : ∀ b, b ≠ W → (w3.setCell ⟨W, 4, none⟩ (.slice (some ⟨g, 0, none⟩) (i + 1) cap)).heap[b]? = w3.heap[b]? := fun b hb => Below.heap_setCell _ _ _ _ hb
  refine ⟨by omega, ?_, ?_, ?_, ?_, ?_⟩
  · refine Kp.setN ⟨H.kp.bel.trans (hall.mono (by omega)), by omega, fun k a1 a2 => ?_⟩ _
    rw [hall.block k (by omega)]
    exact H.kp.block k a1 a2
  · have h0 : w3.rowIs W 25 5 (hdAt ⟨hw.k, hw.n, hw.s, hw.A, hw.la, hw.lc, F', i, d'⟩) := rowIs_below' (B := 0) H.row (hall.block W (by omega))
    refine (h0.set 4 _).congr (fun j hj => ?_)
    match j, hj with
    | 0, _ => rfl
    | 1, _ => rfl
    | 2, _ => rfl
    | 3, _ => rfl
    | 4, _ => rfl
  · refine own_base (own_block hown fun b hb => set_blk b ?_) (by omega)
    simp only [Value.ownBlock, Option.some.injEq] at hb
    omega
  · rw [srtP_step hx]
    exact putP_fst H.keys
  · rw [srtP_step hx]
    refine putP_rel (R := fun p v => Lies _ _ p.2 v.2) H.keys.symm (fun j p v hp hv => ?_) ?_
    · refine Lies.keep (fun q (a1 : wd.heap.size ≤ q.block) a2 => World.cell?_of_block ?_) (fun b hb _ => hb) _ _ (H.lie j p v hp hv)
      rw [set_blk _ (by omega)]
      exact hall.block _ a2
    · refine Lies.keep (fun q (a1 : wr.heap.size ≤ q.block) a2 => World.cell?_of_block ?_) (fun b (a1 : wr.heap.size ≤ b) _ => ?_) _ _ HA.lie
      · rw [set_blk _ (by omega), h3.block _ (by omega), hq.block _ a2]
      · show wd.heap.size ≤ b
        omega
/-- What the round's statements read, behind the search. -/
theorem put_flat {vs : List (ByteArray × Hd)} {key : ByteArray} {h' : Hd} {k : Nat} (hk : k = plc (vs.map Prod.fst) key) : ([] ++ (vs.take k).flatMap pcells ++ pcells (key, h') ++ (vs.drop k).flatMap pcells) = (putP vs (key, h')).flatMap pcells := by
  subst hk
  simp [putP, List.flatMap_append, List.flatMap_cons, List.append_assoc]
theorem aft_cells {wr wp wq w1 : World} {P : Nat} {key : ByteArray} {y : Va} {h' : Hd} (HA : AftP wr P key y h' wp) (hq : Below wp.heap.size wp wq) (hg : wq.grownBy w1 none) :
    w1.cell? ⟨P, 0, none⟩ = some (.string key) ∧ w1.cell? ⟨P, 1, none⟩ = some (.int .i64 h'.k) ∧ w1.cell? ⟨P, 2, none⟩ = some (.int .i64 h'.n) ∧ w1.cell? ⟨P, 3, none⟩ = some (.string h'.s) ∧ w1.cell? ⟨P, 4, none⟩ = some (.slice h'.A h'.la h'.lc) ∧ w1.cell? ⟨P, 5, none⟩ = some (.slice h'.F h'.lf h'.fc) := by
  have hlt := HA.lt
  have hs := hq.size
  have hb : w1.heap[P]? = wp.heap[P]? := (hg.block P (by omega) (by simp)).trans (hq.block P hlt)
  have hc : ∀ (j : Nat) c, (pcells (key, h'))[j]? = some c → w1.cell? ⟨P, j, none⟩ = some c := fun j c hj => (World.cell?_of_block (a := ⟨P, j, none⟩) hb).trans (HA.cel j c hj)
  exact ⟨hc 0 _ rfl, hc 1 _ rfl, hc 2 _ rfl, hc 3 _ rfl, hc 4 _ rfl, hc 5 _ rfl⟩
theorem grow_two {wq w1 w2 : World} {o : Obj} {v1 : Value} (g1 : wq.grownBy w1 none) (a1 : v1.ownBlock = none ∨ v1.ownBlock = some wq.heap.size) (g2 : (w1.alloc o).grownBy w2 v1.ownBlock) : Below wq.heap.size wq w2 := by
  have hb1 : Below wq.heap.size wq w1 := (Below.refl _ _).grown g1 (Nat.le_refl _) (fun k hk => by cases hk)
  refine (hb1.alloc g1.size o).grown g2 (by have := g1.size; simp; omega) (fun k hk => ?_)
  rcases a1 with e | e
  · rw [e] at hk; cases hk
  · rw [e] at hk
    cases hk
    exact Nat.le_refl _
theorem grow_three {wq w1 w2 w3 : World} {o : Obj} {v1 v2 : Value} (g1 : wq.grownBy w1 none) (a1 : v1.ownBlock = none ∨ v1.ownBlock = some wq.heap.size) (g2 : (w1.alloc o).grownBy w2 v1.ownBlock) (a2 : v2.ownBlock = v1.ownBlock ∨ v2.ownBlock = some (w1.alloc o).heap.size) (g3 : w2.grownBy w3 v2.ownBlock) : Below wq.heap.size wq w3 := by
  have h2 := grow_two g1 a1 g2
  refine h2.grown g3 h2.size (fun k hk => ?_)
  rcases a2 with e | e
  · rw [e] at hk
    rcases a1 with e | e
    · rw [e] at hk; cases hk
    · rw [e] at hk
      cases hk
      exact Nat.le_refl _
  · rw [e] at hk
    cases hk
    have := g1.size
    simp
    omega
/-- What is read of the old row behind the search. -/
theorem old_cells {wd wr wp wq w1 : World} {W i P d' : Nat} {hw : Hd} {qs : List (ByteArray × Va)} {vs : List (ByteArray × Hd)} {ad : Addr} {key : ByteArray} {y : Va} {h' : Hd} (H : LoopG wd W hw qs i wr vs (some ad) d') (HA : AftP wr P key y h' wp) (hq : Below wp.heap.size wp wq) (h1 : Below wq.heap.size wq w1) :
    ∀ j u, (vs.flatMap pcells)[j]? = some u → w1.cell? (ad.add j) = some u := fun j u hj => by
  have hlt := HA.bel.size
  have hs := hq.size
  have hc : wr.cell? (ad.add j) = some u := by
    rcases H.own.2 with ⟨hv, _⟩ | ⟨g, cap, cur, hv, _⟩
    · cases hv
    · cases hv
      exact H.own.cells rfl j u hj
  have hb := World.block_lt_of_cell? _ _ hc
  rw [h1.cell (p := ad.add j) (by omega), hq.cell (p := ad.add j) (by omega), HA.bel.cell (p := ad.add j) hb]
  exact hc
theorem old_F {wd wr wp wq w1 : World} {W i P d' : Nat} {hw : Hd} {qs : List (ByteArray × Va)} {vs : List (ByteArray × Hd)} {F' : Option Addr} {key : ByteArray} {y : Va} {h' : Hd} (H : LoopG wd W hw qs i wr vs F' d') (HA : AftP wr P key y h' wp) (hq : Below wp.heap.size wp wq) (h1 : Below wq.heap.size wq w1) :
    w1.cell? ⟨W, 4, none⟩ = some (.slice F' i d') ∧ w1.frozen? ⟨W, 4, none⟩ = false := by
  have hlt := HA.bel.size
  have hs := hq.size
  have hW := H.row.lt
  have hb : w1.heap[W]? = wr.heap[W]? := by rw [h1.block W (by omega), hq.block W (by omega), HA.bel.block W hW]
  exact ⟨(World.cell?_of_block (a := ⟨W, 4, none⟩) hb).trans (H.row.cell (show 4 < 5 by decide)), (World.frozen?_of_block (a := ⟨W, 4, none⟩) hb).trans (H.row.frozen 4)⟩
theorem own_cap {w : World} {base : Nat} {e : TypeId} {size n c : Nat} {A : Option Addr} {xs : List Value} (h : w.ownsRow base e size (.slice A n c) n xs) : n ≤ c ∧ c ≤ maxLen := by
  rcases h.2 with ⟨hv, h0⟩ | ⟨g, cap, cur, hv, _, _, h1, h2, _⟩
  · cases hv
    exact ⟨Nat.le_refl _, by decide⟩
  · cases hv
    exact ⟨h1, h2⟩
theorem own_none {w : World} {base : Nat} {e : TypeId} {size n c : Nat} {xs : List Value} (h : w.ownsRow base e size (.slice none n c) n xs) : n = 0 ∧ c = 0 := by
  rcases h.2 with ⟨hv, h0⟩ | ⟨g, cap, cur, hv, _⟩
  · cases hv
    exact ⟨rfl, rfl⟩
  · cases hv
theorem mem_putP {α : Type} {acc : List (ByteArray × α)} {p x : ByteArray × α} (h : x ∈ putP acc p) : x = p ∨ x ∈ acc := by
  simp only [putP, List.mem_append, List.mem_cons] at h
  rcases h with h | h | h
  · exact .inr (List.mem_of_mem_take h)
  · exact .inl h
  · exact .inr (List.mem_of_mem_drop h)
theorem mem_foldP {α : Type} {x : ByteArray × α} : ∀ (ps acc : List (ByteArray × α)), x ∈ ps.foldl putP acc → x ∈ acc ∨ x ∈ ps
  | [], acc, h => .inl h
  | p :: r, acc, h => by
    rw [List.foldl_cons] at h
    rcases mem_foldP r _ h with h | h
    · rcases mem_putP h with rfl | h
      · exact .inr (List.mem_cons_self ..)
      · exact .inl h
    · exact .inr (List.mem_cons_of_mem _ h)
theorem mem_srtP {α : Type} {x : ByteArray × α} {ps : List (ByteArray × α)} (h : x ∈ srtP ps) : x ∈ ps := by
  rcases mem_foldP ps [] h with h | h
  · simp at h
  · exact h
theorem zip_pairs {α β : Type} : ∀ (vs : List (α × β)), (vs.map Prod.fst).zip (vs.map Prod.snd) = vs
  | [] => rfl
  | x :: r => by simp [zip_pairs r]
/-- The end of Sorted: what was made lies. -/
theorem srt_done {w wc wd wr : World} {W : Nat} {hk hnn : Int} {hs : ByteArray} {l : List Va} {ks : List ByteArray} {f : List Va} {A' F' : Option Addr} {c' d' : Nat} {us : List Hd} {vs : List (ByteArray × Hd)} {h0 : Hd} {S : Nat → Prop}
    (H0 : Lies w S (.mk hk hnn hs l ks f) h0) (HL : LoopA wc W hk hnn hs (srtL l) l.length wd us A' c') (HG : LoopG wd W ⟨hk, hnn, hs, A', l.length, c', none, 0, 0⟩ (ks.zip (srtL f)) f.length wr vs F' d') (hW : W < wc.heap.size) :
    Lies wr (fun b => wc.heap.size ≤ b) (Va.mk hk hnn hs l ks f).srt ⟨hk, hnn, hs, A', l.length, c', F', f.length, d'⟩ := by
  simp only [Lies] at H0
  obtain ⟨⟨_, _, _, _, _, e6⟩, ⟨b1, b2, b3, b4, b5, b6, _, _⟩, _, _⟩ := H0
  have hzl : (ks.zip (srtL f)).length = f.length := by rw [List.length_zip, srtL_length, e6, Nat.min_self]
  have htk : (ks.zip (srtL f)).take f.length = ks.zip (srtL f) := List.take_of_length_le (by omega)
  have hkeys := HG.keys
  have hlie := HG.lie
  have hvl := HG.len
  rw [htk] at hkeys hlie
  have s1 := HL.kp.size
  have s2 := HG.kp.size
  have hmem : ∀ x ∈ (srtP (ks.zip (srtL f))).map Prod.fst, x.size ≤ maxLen := fun x hx => by
    obtain ⟨p, hp, rfl⟩ := List.mem_map.1 hx
    exact b4 _ (List.of_mem_zip (mem_srtP hp)).1
  have hsl : (srtP (ks.zip (srtL f))).length = f.length := by rw [srtP_length, hzl]
  have c1 := (own_cap HL.own).1
  have c2 := (own_cap HG.own).1
  unfold Va.srt
  simp only [Lies]
  refine ⟨⟨trivial, trivial, trivial, (srtL_length l).symm, by rw [List.length_map, hsl], by rw [List.length_map, List.length_map]⟩, ⟨b1, b2, b3, hmem, by rw [srtL_length]; exact b5, by rw [List.length_map, hsl]; exact b6, by rw [srtL_length]; exact c1, by rw [List.length_map, hsl]; exact c2⟩, ⟨us, ?_, ?_⟩, ⟨vs.map Prod.snd, ?_, ?_⟩⟩
  · refine row_of_own Hd.cells us cells_len (own_block HL.own fun g hg => ?_) (fun g hg => (own_lo HL.own hg).1) (.inr (by decide))
    have := own_lo HL.own hg
    exact HG.kp.block g (by omega) (by omega)
  · have htl : (srtL l).take l.length = srtL l := List.take_of_length_le (by rw [srtL_length]; omega)
    have hp := HL.part
    rw [htl] at hp
    refine LiesL_mk hp.len fun i x u hx hu => Lies.keep (fun q (a1 : wc.heap.size ≤ q.block ∧ _) a2 => World.cell?_of_block ?_) (fun b hb _ => hb.1) _ _ (hp.lie i x u hx hu)
    have := a1.1
    exact HG.kp.block _ (by omega) a2
  · rw [← hkeys, zip_pairs]
    refine row_of_own pcells vs pcells_len HG.own (fun g hg => ?_) (.inr (by decide))
    have := (own_lo HG.own hg).1
    show wc.heap.size ≤ g
    omega
  · refine LiesL_mk (by rw [List.length_map, List.length_map, hvl, hsl]) fun i x u hx hu => ?_
    rw [List.getElem?_map, Option.map_eq_some_iff] at hx hu
    obtain ⟨p, hp, rfl⟩ := hx
    obtain ⟨v, hv, rfl⟩ := hu
    exact Lies.keep (fun _ _ _ => rfl) (fun b (hb : wd.heap.size ≤ b) _ => (show wc.heap.size ≤ b by omega)) _ _ (hlie i p v hp hv)
end Go.Proofs.Ytmdlcalnncncjaa
