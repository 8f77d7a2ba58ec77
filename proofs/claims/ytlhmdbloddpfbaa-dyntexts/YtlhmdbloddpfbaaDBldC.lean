/- build's stack: one less, the start, the end; what is left to do. -/
import Derived.Test.YtlhmdbloddpfbaaDBldB
set_option linter.unusedVariables false
set_option linter.unusedSimpArgs false
namespace Go.Proofs.Ytlhmdbloddpfbaa
open Go.RowKit
theorem set_tail {xs : List Value} {a b c d : Value} : (xs ++ [a, b, c, d]).set (xs.length + 3) d = xs ++ [a, b, c, d] := by
  rw [List.set_append_right _ _ (by omega), Nat.add_sub_cancel_left]
  rfl
theorem set_tail2 {xs : List Value} {a b c d c' : Value} : (xs ++ [a, b, c, d]).set (xs.length + 2) c' = xs ++ [a, b, c', d] := by
  rw [List.set_append_right _ _ (by omega), Nat.add_sub_cancel_left]
  rfl
/-- put's call. -/
theorem St.put {w0 : World} {a : Va} {q0 : Addr} {frc fr : Fm} {r : List Fm} {Q cap : Nat} {w : World} (H : St w0 a q0 (frc :: fr :: r) Q cap w) (hj : frc.a.kids.length ≤ frc.j) : Calls Try.prog 73 #[fr.made, .int .i64 fr.j, frc.made] w fun e w1 => PutR fr.b frc.b w.heap.size Q fr.a fr.ins fr.made fr.ps fr.j w e w1 :=
  H.stk.2.1.1.fo.put (H.stk.2.2 fr r rfl) (H.stk.1.fo.done hj) H.stk.2.1.1.hb H.stk.1.hb
theorem St.pop {w0 : World} {a : Va} {q0 : Addr} {frc fr : Fm} {r : List Fm} {Q cap : Nat} {w w1 : World} {e : Ending} (H : St w0 a q0 (frc :: fr :: r) Q cap w) (hP : PutR fr.b frc.b w.heap.size Q fr.a fr.ins fr.made fr.ps fr.j w e w1) :
    St w0 a q0 ({ fr with j := fr.j + 1 } :: r) Q cap ((w1.setCell ⟨Q, r.length * 4 + 3, none⟩ fr.made).setCell ⟨Q, r.length * 4 + 2, none⟩ (.int .i64 ((fr.j + 1 : Nat) : Int))) := by
  obtain ⟨-, hF, p1, p2, p3, p4, p5⟩ := hP
  have hQw : w0.heap.size ≤ Q ∧ Q < w.heap.size := own_lo H.own rfl
  have nQ : ∀ lo hi, ¬ In lo hi Q Q := fun lo hi q => q.2.2 rfl
  have hsz : ((w1.setCell ⟨Q, r.length * 4 + 3, none⟩ fr.made).setCell ⟨Q, r.length * 4 + 2, none⟩ (.int .i64 ((fr.j + 1 : Nat) : Int))).heap.size = w.heap.size := by simp [p4]
  have ob : ∀ b, b ≠ Q → ((w1.setCell ⟨Q, r.length * 4 + 3, none⟩ fr.made).setCell ⟨Q, r.length * 4 + 2, none⟩ (.int .i64 ((fr.j + 1 : Nat) : Int))).heap[b]? = w1.heap[b]? := fun b hb => by
    rw [Below.heap_setCell _ _ _ _ hb, Below.heap_setCell _ _ _ _ hb]
  have lo1 := H.stk.2.1.1.lo
  have hb1 := H.stk.2.1.1.hb
  have hb2 := H.stk.1.hb
  have ob2 : ∀ b, b < fr.b → b ≠ Q → ((w1.setCell ⟨Q, r.length * 4 + 3, none⟩ fr.made).setCell ⟨Q, r.length * 4 + 2, none⟩ (.int .i64 ((fr.j + 1 : Nat) : Int))).heap[b]? = w.heap[b]? := fun b h1 h2 => by
    rw [ob b h2, p5 b (fun q => by have := q.1; omega)]
  refine ⟨?_, ⟨⟨?_, H.stk.2.1.1.kid, H.stk.2.1.1.plc, H.stk.2.1.1.un, H.stk.2.1.1.sh, lo1, by rw [hsz]; show fr.b ≤ _; omega⟩, ?_, H.stk.2.1.2.2⟩, ?_, ?_, ?_⟩
  · have h0 : w.ownsRow w0.heap.size 112 4 (.slice (some ⟨Q, 0, none⟩) (r.length + 1) cap) (r.length + 1) (cellsOf (fr :: r)) := own_pop (ys := frc.cells) H.own (by rw [cellsOf_len]; rfl)
    have h1 := own_block (w' := w1) h0 fun b hb => p5 b (fun q => by injection hb with hb; exact q.2.2 hb.symm)
    have h2 := (h1.stored (r.length * 4 + 3) fr.made).1
    have h3 := (h2.stored (r.length * 4 + 2) (.int .i64 ((fr.j + 1 : Nat) : Int))).1
    have e1 : (cellsOf (fr :: r)).set (r.length * 4 + 3) fr.made = cellsOf (fr :: r) := by
      rw [cellsOf, ← cellsOf_len r]
      exact set_tail
    rw [e1] at h3
    have e2 : (cellsOf (fr :: r)).set (r.length * 4 + 2) (.int .i64 ((fr.j + 1 : Nat) : Int)) = cellsOf ({ fr with j := fr.j + 1 } :: r) := by
      rw [cellsOf, cellsOf, ← cellsOf_len r]
      exact set_tail2
    rw [e2] at h3
    exact h3
  · rw [hsz]
    exact hF.keep (by simp) (fun b q => ob b q.2.2) (fun b q => q)
  · exact Stk.keep r _ H.stk.2.1.2.1 (by rw [hsz]; exact Nat.le_refl _) ob2 (.inl rfl)
  · refine H.bel.trans ⟨p1, p2, p3, by rw [hsz]; exact Nat.le_refl _, fun b hb => ob2 b (by omega) (by omega)⟩
  · obtain ⟨x, h1, h2⟩ := H.bot
    cases r with
    | nil =>
      simp at h1
      exact ⟨_, rfl, by subst h1; exact h2.1, by subst h1; exact h2.2⟩
    | cons y r' => exact ⟨x, by simpa using h1, h2⟩
  · exact H.dep.2
/-- The first is open. -/
theorem St.start {w0 w1 : World} {a : Va} {q : Addr} {u : Hd} {ins made : Value} {ps : Nat → Value} (hq : At5 w0 q u) (hl : Lies w0 (fun b => b < w0.heap.size) a u) (hsh : a.Sh) (hun : Un w0 a u) (hK : Kid w0 w0.heap.size a u ps) (hF : ∀ Q, Q < w0.heap.size ∨ w1.heap.size ≤ Q → Fo w1 w0.heap.size w1.heap.size Q a ins made ps 0) (hb : Below w0.heap.size w0 w1) :
    St w0 a q [⟨a, u, q, ins, made, ps, 0, w0.heap.size⟩] w1.heap.size 1 (w1.alloc (.cells #[.pointer (some q), ins, .int .i64 0, made] 112)) := by
  have hs := hb.size
  refine ⟨World.ownsRow_lit w1 #[.pointer (some q), ins, .int .i64 0, made] 1 hs (by decide) rfl, ⟨⟨?_, hK, ⟨hq, hl⟩, hun, hsh, Nat.le_refl _, by simp; omega⟩, trivial, fun p r' e => by cases e⟩, hb.alloc hs _, ⟨_, rfl, rfl, rfl⟩, ⟨by show 0 + 1 + a.cnt ≤ _; omega, trivial⟩⟩
  refine (hF w1.heap.size (.inr (Nat.le_refl _))).keep (by simp) (fun b q => Below.heap_alloc _ _ _ q.2.1) (fun b q => ⟨q.1, by have := q.2.1; simp; omega, q.2.2⟩)
/-- The last one is done. -/
theorem St.last {w0 : World} {a : Va} {q0 : Addr} {fr : Fm} {Q cap : Nat} {w : World} (H : St w0 a q0 [fr] Q cap w) (hj : fr.a.kids.length ≤ fr.j) : Ls w (fun b => w0.heap.size ≤ b) a fr.made := by
  obtain ⟨x, h1, h2⟩ := H.bot
  simp at h1
  subst h1
  rw [← h2.1]
  exact (H.stk.1.fo.done hj).mono (fun b q => Nat.le_trans H.stk.1.lo q.1)
theorem St.go {w0 : World} {a : Va} {q0 : Addr} {fr : Fm} {r : List Fm} {Q cap : Nat} {w w' : World} (H : St w0 a q0 (fr :: r) Q cap w) (hb : Below w.heap.size w w') : St w0 a q0 (fr :: r) Q cap w' := by
  have hbs := H.bel.size
  exact ⟨own_below H.own hb (Nat.le_refl _), ⟨H.stk.1.keep hb.size hb.size (fun b q _ => hb.block b q) (.inl rfl), Stk.keep r _ H.stk.2.1 hb.size (fun b q _ => hb.block b (by have := H.stk.1.hb; omega)) (.inl rfl), H.stk.2.2⟩, H.bel.trans (hb.mono hbs), H.bot, H.dep⟩
/-- A list in the list, or in the object. -/
def Va.Deep (a : Va) : Prop := ∃ (i : Nat) (c : Va), a.kids[i]? = some c ∧ c.kids ≠ []
theorem Stk.deep {w0 w : World} {Q : Nat} : ∀ (r : List Fm) (fr : Fm) (hi : Nat), Stk w0 w Q (fr :: r) hi → r ≠ [] → fr.a.kids ≠ [] → ∃ x, (fr :: r).getLast? = some x ∧ x.a.Deep
  | [], fr, hi, H, h, _ => absurd rfl h
  | [p], fr, hi, H, _, hk => ⟨p, by simp, _, _, H.2.2 p [] rfl, hk⟩
  | p :: p2 :: r, fr, hi, H, _, hk => by
    have hx := H.2.2 p _ rfl
    obtain ⟨x, h1, h2⟩ := Stk.deep (p2 :: r) p _ H.2.1 (by simp) (fun e => by rw [e] at hx; simp at hx)
    exact ⟨x, by simpa using h1, h2⟩
theorem St.deep {w0 : World} {a : Va} {q0 : Addr} {fr : Fm} {r : List Fm} {Q cap : Nat} {w : World} (H : St w0 a q0 (fr :: r) Q cap w) (hr : r ≠ []) (hj : fr.j < fr.a.kids.length) : a.Deep := by
  obtain ⟨x, h1, h2⟩ := Stk.deep r fr _ H.stk hr (fun e => by rw [e] at hj; simp at hj)
  obtain ⟨y, y1, y2, y3⟩ := H.bot
  rw [h1] at y1
  cases y1
  rw [← y2]
  exact h2
theorem Fo.iface {w : World} {lo hi Q : Nat} {a : Va} {ins made : Value} {ps : Nat → Value} {j : Nat} (H : Fo w lo hi Q a ins made ps j) (h : a.kids ≠ []) : ∃ t v, made = .iface t v := by
  cases H with
  | leaf h' L => exact absurd h' h
  | list => exact ⟨_, _, rfl⟩
  | obj => exact ⟨_, _, rfl⟩
theorem St.cell2 {w0 : World} {a : Va} {q0 : Addr} {frc fr : Fm} {r : List Fm} {Q cap : Nat} {w : World} (H : St w0 a q0 (frc :: fr :: r) Q cap w) : w.cell? ⟨Q, r.length * 4 + 2, none⟩ = some (.int .i64 fr.j) ∧ w.cell? ⟨Q, r.length * 4 + 3, none⟩ = some fr.made ∧ ∀ j, w.frozen? ⟨Q, j, none⟩ = false := by
  have hc : ∀ j, j < 4 → w.cell? ⟨Q, r.length * 4 + j, none⟩ = fr.cells[j]? := fun j hj => by
    rw [H.own.cellAt (r.length * 4 + j) (by simp only [List.length_cons]; omega), cellsOf, cellsOf, List.getElem?_append_left (by rw [List.length_append, cellsOf_len]; show _ < _ + 4; omega), List.getElem?_append_right (by rw [cellsOf_len]; omega), cellsOf_len]
    congr 1
    omega
  exact ⟨hc 2 (by decide), hc 3 (by decide), fun j => H.own.frozenAt j⟩
theorem info112 : (Try.prog.info? 112).map (fun i => (i.zero, i.size, i.bytes)) = some (some (.agg #[.pointer none, .slice none 0 0, .int .i64 0, .nilIface]), 4, 56) := by kernel_rfl
theorem own_cap {w : World} {base : Nat} {e : TypeId} {size Q n cap : Nat} {xs : List Value} (h : w.ownsRow base e size (.slice (some ⟨Q, 0, none⟩) n cap) n xs) : n ≤ cap := by
  rcases h.2 with ⟨h', _⟩ | ⟨g', cap', cur, h', hb, hg, hnc, _⟩
  · simp at h'
  · injection h' with _ _ h3
    omega
/-- What put leaves of the stack. -/
theorem put_keeps {lo hi hi' Q j : Nat} {a : Va} {ins made : Value} {ps : Nat → Value} {w w' : World} {e : Ending} (h : PutR lo hi hi' Q a ins made ps j w e w') (o : Nat) : w'.cell? ⟨Q, o, none⟩ = w.cell? ⟨Q, o, none⟩ ∧ w'.frozen? ⟨Q, o, none⟩ = w.frozen? ⟨Q, o, none⟩ := by
  have hq := h.2.2.2.2.2.2 Q (fun q => q.2.2 rfl)
  exact ⟨World.cell?_of_block (a := ⟨Q, o, none⟩) hq, World.frozen?_of_block (a := ⟨Q, o, none⟩) hq⟩
theorem exists_least {p : Nat → Prop} (h : ∃ m, p m) : ∃ m, p m ∧ ∀ n, p n → m ≤ n := by
  obtain ⟨m, hm⟩ := h
  induction m using Nat.strongRecOn with
  | _ m ih =>
    by_cases hx : ∃ n, n < m ∧ p n
    · obtain ⟨n, h1, h2⟩ := hx
      exact ih n h1 h2
    · exact ⟨m, hm, fun n hn => Nat.le_of_not_lt fun q => hx ⟨n, q, hn⟩⟩
open Classical in
noncomputable def least (p : Nat → Prop) : Nat := if h : ∃ m, p m then (exists_least h).choose else 0
theorem least_is {p : Nat → Prop} (h : ∃ m, p m) : p (least p) ∧ ∀ n, p n → least p ≤ n := by
  unfold least
  rw [dif_pos h]
  exact (exists_least h).choose_spec
/-- What a round starts from, with what is left to do. -/
def RelM (w0 : World) (a : Va) (q0 : Addr) (v : Value) (w : World) (m : Nat) : Prop := ∃ fr r Q cap, v = .slice (some ⟨Q, 0, none⟩) (r.length + 1) cap ∧ St w0 a q0 (fr :: r) Q cap w ∧ mu (fr :: r) = m
def Rel (w0 : World) (a : Va) (q0 : Addr) (v : Value) (w : World) : Prop := ∃ m, RelM w0 a q0 v w m
noncomputable def muOf (w0 : World) (a : Va) (q0 : Addr) (v : Value) (w : World) : Nat := least (RelM w0 a q0 v w)
theorem Rel.min {w0 : World} {a : Va} {q0 : Addr} {v : Value} {w : World} (h : Rel w0 a q0 v w) : RelM w0 a q0 v w (muOf w0 a q0 v w) := (least_is h).1
theorem Rel.less {w0 : World} {a : Va} {q0 : Addr} {v v' : Value} {w w' : World} {m : Nat} (h : RelM w0 a q0 v' w' m) (hm : m < muOf w0 a q0 v w) : Rel w0 a q0 v' w' ∧ muOf w0 a q0 v' w' < muOf w0 a q0 v w := ⟨⟨m, h⟩, Nat.lt_of_le_of_lt ((least_is ⟨m, h⟩).2 m h) hm⟩
end Go.Proofs.Ytlhmdbloddpfbaa
