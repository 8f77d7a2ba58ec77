/- build's stack: what stands on it, and what its steps leave. -/
import Derived.Test.YtlhmdbloddpfbaaDBldA
import Derived.Test.YtlhmdbloddpfbaaDMark
import Derived.Test.YtlhmdbloddpfbaaDOpen
import Derived.Maps.AppendAt
import Derived.Deep.AppendLies
import Derived.Laws.OwnMore
set_option linter.unusedVariables false
set_option linter.unusedSimpArgs false
namespace Go.Proofs.Ytlhmdbloddpfbaa
open Go.RowKit
/-- What lies there is one value. -/
theorem lies_one {w : World} (a : Va) : ∀ (S S' : Nat → Prop) (a' : Va) (h : Hd), Lies w S a h → Lies w S' a' h → a = a' := by
  induction a using Va.ind with
  | h k n s l ks f ihl ihf =>
    intro S S' a' h H H'
    obtain ⟨k', n', s', l', ks', f'⟩ := a'
    have o := H.op
    have o' := H'.op
    simp only [Lies] at H H'
    obtain ⟨⟨e1, e2, e3, e4, e5, e6⟩, -, -, -⟩ := H
    obtain ⟨⟨d1, d2, d3, d4, d5, d6⟩, -, -, -⟩ := H'
    have hl : l.length = l'.length := by omega
    have hf : f.length = f'.length := by omega
    have el : l = l' := by
      apply List.ext_getElem hl
      intro i h1 h2
      obtain ⟨ad, u, x1, _, _, x2, x3⟩ := o.L i _ (List.getElem?_eq_getElem h1)
      obtain ⟨ad', u', y1, _, _, y2, y3⟩ := o'.L i _ (List.getElem?_eq_getElem h2)
      rw [x1] at y1
      cases y1
      cases at5_one x3 y3
      exact ihl _ (List.getElem_mem h1) _ _ _ _ x2 y2
    have ef : f = f' := by
      apply List.ext_getElem hf
      intro i h1 h2
      obtain ⟨ad, u, key, x1, _, _, _, _, x2, x3⟩ := o.K i _ (List.getElem?_eq_getElem h1)
      obtain ⟨ad', u', key', y1, _, _, _, _, y2, y3⟩ := o'.K i _ (List.getElem?_eq_getElem h2)
      rw [x1] at y1
      cases y1
      cases (at6_one x3 y3).2
      exact ihf _ (List.getElem_mem h1) _ _ _ _ x2 y2
    have ek : ks = ks' := by
      apply List.ext_getElem (by omega)
      intro i h1 h2
      obtain ⟨ad, u, key, x1, _, _, x4, _, x2, x3⟩ := o.K i _ (List.getElem?_eq_getElem (show i < f.length by omega))
      obtain ⟨ad', u', key', y1, _, _, y4, _, y2, y3⟩ := o'.K i _ (List.getElem?_eq_getElem (show i < f'.length by omega))
      rw [x1] at y1
      cases y1
      have := (at6_one x3 y3).1
      rw [List.getElem?_eq_getElem h1] at x4
      rw [List.getElem?_eq_getElem h2] at y4
      injection x4 with x4
      injection y4 with y4
      rw [x4, y4, this]
    subst e1 e2 e3 d1 d2 d3 el ef ek
    rfl
theorem stp_back {w w0 : World} {B : Nat} {a c : Va} {h u : Hd} {p : Addr} (s : Stp w a h c p u) (hp : p.block < B) (bk : ∀ z : Addr, z.block < B → w0.cell? z = w.cell? z) : Stp w0 a h c p u := by
  cases s with
  | L hx hA hu =>
    exact .L hx hA ⟨(bk _ hp).trans hu.1, (bk ⟨_, _, none⟩ hp).trans hu.2.1, (bk ⟨_, _, none⟩ hp).trans hu.2.2.1, (bk ⟨_, _, none⟩ hp).trans hu.2.2.2.1, (bk ⟨_, _, none⟩ hp).trans hu.2.2.2.2⟩
  | K hx hF hu =>
    rename_i i ad key
    have bk2 : ∀ z : Addr, z.block = (ad.add (i * 6)).block → w0.cell? z = w.cell? z := fun z hz => bk z (by rw [hz]; exact hp)
    exact .K hx hF ⟨(bk2 _ rfl).trans hu.1, (bk2 ⟨_, (ad.add (i * 6)).off + 1, none⟩ rfl).trans hu.2.1, (bk2 ⟨_, (ad.add (i * 6)).off + 2, none⟩ rfl).trans hu.2.2.1, (bk2 ⟨_, (ad.add (i * 6)).off + 3, none⟩ rfl).trans hu.2.2.2.1, (bk2 ⟨_, (ad.add (i * 6)).off + 4, none⟩ rfl).trans hu.2.2.2.2.1, (bk2 ⟨_, (ad.add (i * 6)).off + 5, none⟩ rfl).trans hu.2.2.2.2.2⟩
/-- One that is open. -/
structure Fm where
  a : Va
  h : Hd
  q : Addr
  ins : Value
  made : Value
  ps : Nat → Value
  j : Nat
  b : Nat
def Fm.cells (fr : Fm) : List Value := [.pointer (some fr.q), fr.ins, .int .i64 fr.j, fr.made]
def cellsOf : List Fm → List Value
  | [] => []
  | fr :: r => cellsOf r ++ fr.cells
theorem cellsOf_len : ∀ st : List Fm, (cellsOf st).length = st.length * 4
  | [] => rfl
  | fr :: r => by rw [cellsOf, List.length_append, cellsOf_len r]; simp [Fm.cells]; omega
/-- No place in it is frozen. -/
def Un (w : World) (a : Va) (h : Hd) : Prop := ∀ c p u, Rch w a h c p u → w.frozen? p = false
structure FrOK (w0 w : World) (Q hi : Nat) (fr : Fm) : Prop where
  fo : Fo w fr.b hi Q fr.a fr.ins fr.made fr.ps fr.j
  kid : Kid w0 w0.heap.size fr.a fr.h fr.ps
  plc : At5 w0 fr.q fr.h ∧ Lies w0 (fun b => b < w0.heap.size) fr.a fr.h
  un : Un w0 fr.a fr.h
  sh : fr.a.Sh
  lo : w0.heap.size ≤ fr.b
  hb : fr.b ≤ hi
def Stk (w0 w : World) (Q : Nat) : List Fm → Nat → Prop
  | [], _ => True
  | fr :: r, hi => FrOK w0 w Q hi fr ∧ Stk w0 w Q r fr.b ∧ ∀ p r', r = p :: r' → p.a.kids[p.j]? = some fr.a
theorem FrOK.keep {w0 w w' : World} {Q Q' hi hi' : Nat} {fr : Fm} (H : FrOK w0 w Q hi fr) (hs : w.heap.size ≤ w'.heap.size) (hh : hi ≤ hi') (hk : ∀ b, b < hi → b ≠ Q → w'.heap[b]? = w.heap[b]?) (hQ : Q' = Q ∨ hi ≤ Q') : FrOK w0 w' Q' hi' fr :=
  ⟨H.fo.keep hs (fun b q => hk b q.2.1 q.2.2) (fun b q => ⟨q.1, by have := q.2.1; omega, by have := q.2.1; have := q.2.2; omega⟩), H.kid, H.plc, H.un, H.sh, H.lo, by have := H.hb; omega⟩
theorem Stk.keep {w0 w w' : World} {Q Q' : Nat} : ∀ (st : List Fm) (hi : Nat), Stk w0 w Q st hi → w.heap.size ≤ w'.heap.size → (∀ b, b < hi → b ≠ Q → w'.heap[b]? = w.heap[b]?) → (Q' = Q ∨ hi ≤ Q') → Stk w0 w' Q' st hi
  | [], hi, _, _, _, _ => trivial
  | fr :: r, hi, ⟨h1, h2, h3⟩, hs, hk, hQ => ⟨h1.keep hs (Nat.le_refl _) hk hQ, Stk.keep r fr.b h2 hs (fun b q => hk b (by have := h1.hb; omega)) (by have := h1.hb; omega), h3⟩
/-- All that is open holds more than what is ahead. -/
theorem Stk.more {w0 w : World} {Q : Nat} : ∀ (st : List Fm) (hi : Nat) (fr : Fm) (r : List Fm), st = fr :: r → Stk w0 w Q st hi → ∀ p ∈ st, fr.a.cnt ≤ p.a.cnt ∧ At5 w0 p.q p.h ∧ Lies w0 (fun b => b < w0.heap.size) p.a p.h
  | _ :: [], hi, fr, r, e, H, p, hp => by
    injection e with e1 e2
    subst e1 e2
    simp at hp
    subst hp
    exact ⟨Nat.le_refl _, H.1.plc⟩
  | _ :: fr2 :: r2, hi, fr, r, e, H, p, hp => by
    injection e with e1 e2
    subst e1 e2
    rcases List.mem_cons.1 hp with rfl | hp
    · exact ⟨Nat.le_refl _, H.1.plc⟩
    · have h := Stk.more (fr2 :: r2) _ fr2 r2 rfl H.2.1 p hp
      have := kids_cnt (H.2.2 fr2 r2 rfl)
      exact ⟨by omega, h.2⟩
/-- What is left to do. -/
def muR : List Fm → Nat
  | [] => 0
  | fr :: r => 1 + 2 * cntL (fr.a.kids.drop (fr.j + 1)) + muR r
def mu : List Fm → Nat
  | [] => 0
  | fr :: r => 1 + 2 * cntL (fr.a.kids.drop fr.j) + muR r
theorem cntL_kids (a : Va) : cntL a.kids < a.cnt := by
  obtain ⟨k, n, s, l, ks, f⟩ := a
  simp only [Va.kids, Va.cnt]
  split
  · omega
  · split
    · omega
    · simp [cntL]; omega
theorem mu_push {fr frc : Fm} {r : List Fm} (h : fr.a.kids[fr.j]? = some frc.a) (hj : frc.j = 0) : mu (frc :: fr :: r) < mu (fr :: r) := by
  have hlt := (List.getElem?_eq_some_iff.1 h).1
  have e := List.drop_eq_getElem_cons hlt
  have e2 : fr.a.kids[fr.j] = frc.a := by
    have := h
    rw [List.getElem?_eq_getElem hlt] at this
    injection this
  have h1 := cntL_kids frc.a
  simp only [mu, muR, hj, List.drop_zero]
  rw [e, e2, cntL]
  omega
theorem mu_pop {fr frc : Fm} {r : List Fm} : mu ({ fr with j := fr.j + 1 } :: r) < mu (frc :: fr :: r) := by
  simp only [mu, muR]
  omega
/-- How deep it may be. -/
def Dep (N : Nat) : List Fm → Prop
  | [] => True
  | fr :: r => r.length + 1 + fr.a.cnt ≤ N ∧ Dep N r
/-- The state ahead of a round. -/
structure St (w0 : World) (a : Va) (q0 : Addr) (st : List Fm) (Q cap : Nat) (w : World) : Prop where
  own : w.ownsRow w0.heap.size 112 4 (.slice (some ⟨Q, 0, none⟩) st.length cap) st.length (cellsOf st)
  stk : Stk w0 w Q st w.heap.size
  bel : Below w0.heap.size w0 w
  bot : ∃ fr, st.getLast? = some fr ∧ fr.a = a ∧ fr.q = q0
  dep : Dep (a.cnt + 1) st
theorem St.cell {w0 : World} {a : Va} {q0 : Addr} {fr : Fm} {r : List Fm} {Q cap : Nat} {w : World} (H : St w0 a q0 (fr :: r) Q cap w) : w.cell? ⟨Q, r.length * 4, none⟩ = some (.pointer (some fr.q)) ∧ w.cell? ⟨Q, r.length * 4 + 1, none⟩ = some fr.ins ∧ w.cell? ⟨Q, r.length * 4 + 2, none⟩ = some (.int .i64 fr.j) ∧ w.cell? ⟨Q, r.length * 4 + 3, none⟩ = some fr.made := by
  have hc : ∀ j, j < 4 → w.cell? ⟨Q, r.length * 4 + j, none⟩ = fr.cells[j]? := fun j hj => by
    rw [H.own.cellAt (r.length * 4 + j) (by simp only [List.length_cons]; omega), cellsOf, List.getElem?_append_right (by rw [cellsOf_len]; omega), cellsOf_len]
    congr 1
    omega
  exact ⟨hc 0 (by decide), hc 1 (by decide), hc 2 (by decide), hc 3 (by decide)⟩
theorem cells_at : ∀ (st : List Fm) (m : Nat), m < st.length → ∃ p ∈ st, (cellsOf st)[m * 4]? = some (.pointer (some p.q))
  | [], m, h => by simp at h
  | fr :: r, m, h => by
    simp only [List.length_cons] at h
    by_cases e : m < r.length
    · obtain ⟨p, hp, hc⟩ := cells_at r m e
      refine ⟨p, List.mem_cons_of_mem _ hp, ?_⟩
      rw [cellsOf, List.getElem?_append_left (by rw [cellsOf_len]; omega)]
      exact hc
    · obtain rfl : m = r.length := by omega
      refine ⟨fr, List.mem_cons_self .., ?_⟩
      rw [cellsOf, List.getElem?_append_right (by rw [cellsOf_len]; omega), cellsOf_len, Nat.sub_self]
      rfl
/-- What stands at the mark isn't what is met. -/
theorem St.mark {w0 : World} {a c : Va} {q0 : Addr} {fr : Fm} {r : List Fm} {Q cap : Nat} {w : World} {p : Addr} {u : Hd} (H : St w0 a q0 (fr :: r) Q cap w) (hc : c.cnt < fr.a.cnt) (hp : At5 w0 p u) (hl : Lies w0 (fun b => b < w0.heap.size) c u) {m : Nat} (hm : m < r.length + 1) : ∃ q, w.cell? ⟨Q, m * 4, none⟩ = some (.pointer (some q)) ∧ p ≠ q ∧ (∃ v, w0.cell? q = some v) ∧ (r = [] → q = q0) := by
  obtain ⟨x, hx, hcx⟩ := cells_at (fr :: r) m hm
  obtain ⟨h1, h2, h3⟩ := Stk.more _ _ fr r rfl H.stk x hx
  refine ⟨x.q, by rw [H.own.cellAt (m * 4) (by simp only [List.length_cons]; omega)]; exact hcx, fun e => ?_, ⟨_, h2.1⟩, fun e => ?_⟩
  rotate_left
  · subst e
    obtain ⟨y, y1, y2, y3⟩ := H.bot
    simp at y1 hx
    rw [hx, y1]
    exact y3
  subst e
  cases at5_one hp h2
  cases lies_one _ _ _ _ _ hl h3
  omega
theorem own_pop {w : World} {base : Nat} {e : TypeId} {Q n cap : Nat} {xs ys : List Value} (h : w.ownsRow base e 4 (.slice (some ⟨Q, 0, none⟩) (n + 1) cap) (n + 1) (xs ++ ys)) (hx : xs.length = n * 4) : w.ownsRow base e 4 (.slice (some ⟨Q, 0, none⟩) n cap) n xs := by
  rcases h.2 with ⟨h', _⟩ | ⟨g', cap', cur, h', hb, hg, hnc, hcm, hcs, htake⟩
  · simp at h'
  · simp only [Value.slice.injEq, Option.some.injEq, Addr.mk.injEq, and_true, true_and] at h'
    obtain ⟨rfl, rfl⟩ := h'
    refine ⟨hx, .inr ⟨Q, cap, cur, rfl, hb, hg, by omega, hcm, hcs, ?_⟩⟩
    have := congrArg (List.take (n * 4)) htake
    rw [List.take_take, Nat.min_eq_left (by omega), List.take_left' hx] at this
    exact this
/-- One more is open. -/
theorem St.push {w0 : World} {a c : Va} {q0 : Addr} {fr : Fm} {r : List Fm} {Q cap Q' cap' : Nat} {w w1 w3 : World} {p : Addr} {u : Hd} {ins made : Value} {ps : Nat → Value} {o : Obj} (H : St w0 a q0 (fr :: r) Q cap w) (hc : fr.a.kids[fr.j]? = some c) (hp : At5 w0 p u) (hl : Lies w0 (fun b => b < w0.heap.size) c u) (hst : Stp w0 fr.a fr.h c p u)
    (hK : Kid w w0.heap.size c u ps) (hF : ∀ Q, Q < w.heap.size ∨ w1.heap.size ≤ Q → Fo w1 w.heap.size w1.heap.size Q c ins made ps 0) (hb : Below w.heap.size w w1)
    (hown : w3.ownsRow w0.heap.size 112 4 (.slice (some ⟨Q', 0, none⟩) (r.length + 1 + 1) cap') (r.length + 1 + 1) (cellsOf (fr :: r) ++ [.pointer (some p), ins, .int .i64 0, made])) (hg : (w1.alloc o).grownBy w3 (some Q)) (hQ : Q' = Q ∨ Q' = w1.heap.size + 1) :
    St w0 a q0 (⟨c, u, p, ins, made, ps, 0, w.heap.size⟩ :: fr :: r) Q' cap' w3 := by
  have hQw : w0.heap.size ≤ Q ∧ Q < w.heap.size := own_lo H.own rfl
  have hbs := H.bel.size
  have hs1 := hb.size
  have hs3 := hg.size
  simp only [World.size_alloc] at hs3
  have blk : ∀ b, b < w.heap.size → b ≠ Q → w3.heap[b]? = w.heap[b]? := fun b h1 h2 => by
    rw [hg.block b (by simp; omega) (fun e => h2 (by injection e)), Below.heap_alloc _ _ _ (by omega), hb.block b h1]
  have blk1 : ∀ b, b < w1.heap.size → b ≠ Q → w3.heap[b]? = w1.heap[b]? := fun b h1 h2 => by
    rw [hg.block b (by simp; omega) (fun e => h2 (by injection e)), Below.heap_alloc _ _ _ (by omega)]
  refine ⟨hown, ⟨⟨?_, ?_, ⟨hp, hl⟩, fun d z v rr => H.stk.1.un _ _ _ (.cons hst rr), kids_sh hc H.stk.1.sh, hbs, by show w.heap.size ≤ _; omega⟩, ?_, fun p' r' e => ?_⟩, ?_, ?_, ?_⟩
  · refine (hF Q' (by omega)).keep (by omega) (fun b q => blk1 b q.2.1 ?_) (fun b q => ⟨q.1, by have := q.2.1; omega, q.2.2⟩)
    have := q.1
    omega
  · intro i y hy
    obtain ⟨p', u', h1, h2, h3, h4, h5⟩ := hK i y hy
    have bk : ∀ z : Addr, z.block < w0.heap.size → w0.cell? z = w.cell? z := fun z hz => (H.bel.cell hz).symm
    refine ⟨p', u', h1, h2, ⟨(bk _ h2).trans h3.1, (bk ⟨p'.block, p'.off + 1, none⟩ h2).trans h3.2.1, (bk ⟨p'.block, p'.off + 2, none⟩ h2).trans h3.2.2.1, (bk ⟨p'.block, p'.off + 3, none⟩ h2).trans h3.2.2.2.1, (bk ⟨p'.block, p'.off + 4, none⟩ h2).trans h3.2.2.2.2⟩, Lies.keep (fun z hz _ => bk z hz) (fun b hb _ => hb) _ _ h4, stp_back h5 h2 bk⟩
  · have t1 : w.heap.size ≤ w3.heap.size := by omega
    have t2 : Q' = Q ∨ w.heap.size ≤ Q' := by omega
    exact Stk.keep _ _ H.stk t1 blk t2
  · injection e with e1 e2
    subst e1
    exact hc
  · exact H.bel.trans ⟨hg.os.trans hb.os, hg.tape.trans hb.tape, hg.output.trans hb.output, by omega, fun k hk => blk k (by omega) (by omega)⟩
  · obtain ⟨x, h1, h2⟩ := H.bot
    exact ⟨x, by simpa using h1, h2⟩
  · have h1 := H.dep.1
    have h2 := kids_cnt hc
    refine ⟨?_, H.dep⟩
    show (fr :: r).length + 1 + c.cnt ≤ _
    simp only [List.length_cons]
    omega
end Go.Proofs.Ytlhmdbloddpfbaa
