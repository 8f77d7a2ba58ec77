/- What build makes of one place: begun, in part, done. -/
import Derived.Test.YtlhmdbloddpfbaaDOddP
import Derived.Test.YtlhmdbloddpfbaaDOpen
set_option linter.unusedVariables false
set_option linter.unusedSimpArgs false
namespace Go.Proofs.Ytlhmdbloddpfbaa
open Go.RowKit
/-- What is inside a value. -/
def Va.kids : Va → List Va
  | .mk k _ _ l _ f => if k = 4 then l else if k = 5 then f else []
theorem kids_cnt {a c : Va} {i : Nat} (h : a.kids[i]? = some c) : c.cnt < a.cnt := by
  obtain ⟨k, n, s, l, ks, f⟩ := a
  simp only [Va.kids] at h
  simp only [Va.cnt]
  split at h
  · have := cntL_mem (List.mem_of_getElem? h); omega
  · split at h
    · have := cntL_mem (List.mem_of_getElem? h); omega
    · simp at h
theorem kids_len (a : Va) : a.kids.length < a.cnt := by
  obtain ⟨k, n, s, l, ks, f⟩ := a
  have h1 := len_le_cntL l
  have h2 := len_le_cntL f
  simp only [Va.kids, Va.cnt]
  split
  · omega
  · split
    · omega
    · simp; omega
theorem kids_sh {a c : Va} {i : Nat} (h : a.kids[i]? = some c) (hs : a.Sh) : c.Sh := by
  obtain ⟨k, n, s, l, ks, f⟩ := a
  simp only [Va.kids] at h
  simp only [Va.Sh] at hs
  split at h
  · exact ShL_mem hs.2.1 (List.mem_of_getElem? h)
  · split at h
    · exact ShL_mem hs.2.2.2 (List.mem_of_getElem? h)
    · simp at h
/-- Blocks of one's own: from lo on, below hi, not Q. -/
def In (lo hi Q b : Nat) : Prop := lo ≤ b ∧ b < hi ∧ b ≠ Q
/-- What is made of a place so far: the first j of what is inside it are in it. -/
inductive Fo (w : World) (lo hi Q : Nat) : Va → Value → Value → (Nat → Value) → Nat → Prop
  | leaf {a : Va} {made : Value} {ps : Nat → Value} (h : a.kids = []) (L : Ls w (fun _ => False) a made) : Fo w lo hi Q a (.slice none 0 0) made ps 0
  | list {n : Int} {s : ByteArray} {l : List Va} {ks : List ByteArray} {f : List Va} {g I j : Nat} {ps fn : Nat → Value} (hl : l.length ≤ 1000) (hj : j ≤ l.length) (ne : g ≠ I) (hg : In lo hi Q g) (hI : In lo hi Q I) (rI : w.rowIs I 82 l.length ps) (rg : w.rowIs g 20 l.length fn) (el : ∀ i c, i < j → l[i]? = some c → Ls w (fun b => In lo hi Q b ∧ b ≠ g) c (fn i)) : Fo w lo hi Q (.mk 4 n s l ks f) (.slice (some ⟨I, 0, none⟩) l.length l.length) (.iface 85 (.slice (some ⟨g, 0, none⟩) l.length l.length)) ps j
  | obj {n : Int} {s : ByteArray} {l : List Va} {ks : List ByteArray} {f : List Va} {g I j : Nat} {ps fn : Nat → Value} (hl : f.length ≤ 1000) (hk : ks.length = f.length) (hj : j ≤ f.length) (ne : g ≠ I) (hg : In lo hi Q g) (hI : In lo hi Q I) (rI : w.rowIs I 82 f.length ps) (rg : w.rowIs g 92 (f.length * 2) fn) (key : ∀ (i : Nat) x, ks[i]? = some x → fn (i * 2) = .string x) (el : ∀ i c, i < j → f[i]? = some c → Ls w (fun b => In lo hi Q b ∧ b ≠ g) c (fn (i * 2 + 1))) : Fo w lo hi Q (.mk 5 n s l ks f) (.slice (some ⟨I, 0, none⟩) f.length f.length) (.iface 87 (.slice (some ⟨g, 0, none⟩) f.length f.length)) ps j
theorem Fo.keep {w w' : World} {lo hi hi' Q Q' : Nat} {a : Va} {ins made : Value} {ps : Nat → Value} {j : Nat} (H : Fo w lo hi Q a ins made ps j) (hs : w.heap.size ≤ w'.heap.size) (hb : ∀ b, In lo hi Q b → w'.heap[b]? = w.heap[b]?) (hm : ∀ b, In lo hi Q b → In lo hi' Q' b) : Fo w' lo hi' Q' a ins made ps j := by
  cases H with
  | leaf h L => exact .leaf h (Ls.keep hs (fun b q _ => q.elim) (fun b q _ => q) _ _ L)
  | list hl hj ne hg hI rI rg el => exact .list hl hj ne (hm _ hg) (hm _ hI) (rI.of_block (hb _ hI)) (rg.of_block (hb _ hg)) (fun i c h1 h2 => Ls.keep hs (fun b q _ => hb b q.1) (fun b q _ => ⟨hm b q.1, q.2⟩) _ _ (el i c h1 h2))
  | obj hl hk hj ne hg hI rI rg key el => exact .obj hl hk hj ne (hm _ hg) (hm _ hI) (rI.of_block (hb _ hI)) (rg.of_block (hb _ hg)) key (fun i c h1 h2 => Ls.keep hs (fun b q _ => hb b q.1) (fun b q _ => ⟨hm b q.1, q.2⟩) _ _ (el i c h1 h2))
/-- How many are inside, and where they stand. -/
theorem Fo.ins {w : World} {lo hi Q : Nat} {a : Va} {ins made : Value} {ps : Nat → Value} {j : Nat} (H : Fo w lo hi Q a ins made ps j) : ∃ I c, ins = .slice I a.kids.length c ∧ j ≤ a.kids.length ∧ (j < a.kids.length → ∃ b, I = some ⟨b, 0, none⟩ ∧ b < w.heap.size ∧ In lo hi Q b ∧ w.cell? ⟨b, j, none⟩ = some (ps j)) := by
  cases H with
  | leaf h L => exact ⟨none, 0, by rw [h]; rfl, by rw [h]; exact Nat.le_refl _, fun q => by rw [h] at q; simp at q⟩
  | list hl hj ne hg hI rI rg el => exact ⟨_, _, rfl, hj, fun q => ⟨_, rfl, rI.lt, hI, rI.cell q⟩⟩
  | obj hl hk hj ne hg hI rI rg key el => exact ⟨_, _, rfl, hj, fun q => ⟨_, rfl, rI.lt, hI, rI.cell q⟩⟩
theorem Fo.isI {w : World} {lo hi Q : Nat} {a : Va} {ins made : Value} {ps : Nat → Value} {j : Nat} (H : Fo w lo hi Q a ins made ps j) : IsI made := by
  cases H with
  | leaf h L => exact L.isI
  | list => exact .inr ⟨_, _, rfl⟩
  | obj => exact .inr ⟨_, _, rfl⟩
/-- All is in it. -/
theorem Fo.done {w : World} {lo hi Q : Nat} {a : Va} {ins made : Value} {ps : Nat → Value} {j : Nat} (H : Fo w lo hi Q a ins made ps j) (hj : a.kids.length ≤ j) : Ls w (In lo hi Q) a made := by
  cases H with
  | leaf h L => exact L.mono (fun b q => q.elim)
  | list hl hj' ne hg hI rI rg el =>
    rename_i n s l ks f g I fn
    have hjl : l.length ≤ j := hj
    refine .list ((List.range l.length).map fn) (by simp) rg.lt hg (fun i x hx => ?_) (fun i y x hy hx => ?_)
    · have hi : i < l.length := by have := (List.getElem?_eq_some_iff.1 hx).1; simpa using this
      rw [List.getElem?_map, List.getElem?_range hi] at hx
      simp only [Option.map_some, Option.some.injEq] at hx
      rw [← hx]
      exact rg.cell hi
    · have hi : i < l.length := (List.getElem?_eq_some_iff.1 hy).1
      rw [List.getElem?_map, List.getElem?_range hi] at hx
      simp only [Option.map_some, Option.some.injEq] at hx
      rw [← hx]
      exact (el i y (by omega) hy).mono (fun b q => q.1)
  | obj hl hk hj' ne hg hI rI rg key el =>
    rename_i n s l ks f g I fn
    have hjl : f.length ≤ j := hj
    refine .obj ((List.range f.length).map fun i => fn (i * 2 + 1)) (by simp) rg.lt hg (fun i x hx => ?_) (fun i x hx => ?_) (fun i y x hy hx => ?_)
    · have hi : i < f.length := by have := (List.getElem?_eq_some_iff.1 hx).1; omega
      rw [← key i x hx]
      exact rg.cell (by omega)
    · have hi : i < f.length := by have := (List.getElem?_eq_some_iff.1 hx).1; simpa using this
      rw [List.getElem?_map, List.getElem?_range hi] at hx
      simp only [Option.map_some, Option.some.injEq] at hx
      rw [← hx]
      exact rg.cell (by omega)
    · have hi : i < f.length := (List.getElem?_eq_some_iff.1 hy).1
      rw [List.getElem?_map, List.getElem?_range hi] at hx
      simp only [Option.map_some, Option.some.injEq] at hx
      rw [← hx]
      exact (el i y (by omega) hy).mono (fun b q => q.1)
/-- What put leaves. -/
def PutR (lo hi hi' Q : Nat) (a : Va) (ins made : Value) (ps : Nat → Value) (j : Nat) (w : World) (e : Ending) (w' : World) : Prop := e = .returned made ∧ Fo w' lo hi' Q a ins made ps (j + 1) ∧ w'.os = w.os ∧ w'.tape = w.tape ∧ w'.output = w.output ∧ w'.heap.size = w.heap.size ∧ ∀ b, ¬ In lo hi Q b → w'.heap[b]? = w.heap[b]?
theorem Fo.put {w : World} {lo hi hi' Q : Nat} {a c : Va} {ins made x : Value} {ps : Nat → Value} {j : Nat} (H : Fo w lo hi Q a ins made ps j) (hc : a.kids[j]? = some c) (hx : Ls w (In hi hi' Q) c x) (hlh : lo ≤ hi) (hh : hi ≤ hi') : Calls Try.prog 73 #[made, .int .i64 j, x] w fun e w' => PutR lo hi hi' Q a ins made ps j w e w' := by
  have mo : ∀ b, In lo hi Q b → In lo hi' Q b := fun b q => ⟨q.1, by have := q.2.1; omega, q.2.2⟩
  cases H with
  | leaf h L => rw [h] at hc; simp at hc
  | list hl hj ne hg hI rI rg el =>
    rename_i n s l ks f g I fn
    have hc' : l[j]? = some c := hc
    have hjl : j < l.length := (List.getElem?_eq_some_iff.1 hc').1
    refine (put_list g l.length j x _ w hx.isI hjl hl (rg.cell hjl) (rg.frozen j)).mono ?_
    rintro e w' ⟨rfl, rfl⟩
    have hgl := hg.2.1
    have ob : ∀ b, b ≠ g → (w.setCell ⟨g, j, none⟩ x).heap[b]? = w.heap[b]? := fun b hb => Below.heap_setCell _ _ _ _ hb
    refine ⟨rfl, .list hl (by omega) ne (mo _ hg) (mo _ hI) (rI.of_block (ob _ (Ne.symm ne))) (rg.set j x) (fun i y hi hy => ?_), rfl, rfl, rfl, by simp, fun b hb => ob b (fun e => hb (by rw [e]; exact hg))⟩
    by_cases e : i = j
    · subst e
      rw [hc'] at hy
      cases hy
      rw [if_pos rfl]
      exact Ls.keep (by simp) (fun b q _ => ob b (by have := q.1; omega)) (fun b q _ => ⟨⟨by have := q.1; omega, q.2.1, q.2.2⟩, by have := q.1; omega⟩) _ _ hx
    · rw [if_neg e]
      exact Ls.keep (by simp) (fun b q _ => ob b q.2) (fun b q _ => ⟨mo b q.1, q.2⟩) _ _ (el i y (by omega) hy)
  | obj hl hk hj ne hg hI rI rg key el =>
    rename_i n s l ks f g I fn
    have hc' : f[j]? = some c := hc
    have hjl : j < f.length := (List.getElem?_eq_some_iff.1 hc').1
    refine (put_obj g f.length j x _ w hx.isI hjl hl (rg.cell (by omega)) (rg.frozen (j * 2 + 1))).mono ?_
    rintro e w' ⟨rfl, rfl⟩
    have hgl := hg.2.1
    have ob : ∀ b, b ≠ g → (w.setCell ⟨g, j * 2 + 1, none⟩ x).heap[b]? = w.heap[b]? := fun b hb => Below.heap_setCell _ _ _ _ hb
    refine ⟨rfl, .obj hl hk (by omega) ne (mo _ hg) (mo _ hI) (rI.of_block (ob _ (Ne.symm ne))) (rg.set (j * 2 + 1) x) (fun i y hy => ?_) (fun i y hi hy => ?_), rfl, rfl, rfl, by simp, fun b hb => ob b (fun e => hb (by rw [e]; exact hg))⟩
    · rw [if_neg (by omega)]
      exact key i y hy
    · by_cases e : i = j
      · subst e
        rw [hc'] at hy
        cases hy
        rw [if_pos rfl]
        exact Ls.keep (by simp) (fun b q _ => ob b (by have := q.1; omega)) (fun b q _ => ⟨⟨by have := q.1; omega, q.2.1, q.2.2⟩, by have := q.1; omega⟩) _ _ hx
      · rw [if_neg (by omega)]
        exact Ls.keep (by simp) (fun b q _ => ob b q.2) (fun b q _ => ⟨mo b q.1, q.2⟩) _ _ (el i y (by omega) hy)
/-- Where the ones inside stand. -/
def Kid (w : World) (B : Nat) (a : Va) (h : Hd) (ps : Nat → Value) : Prop := ∀ (i : Nat) c, a.kids[i]? = some c → ∃ p u, ps i = .pointer (some p) ∧ p.block < B ∧ At5 w p u ∧ Lies w (fun b => b < B) c u ∧ Stp w a h c p u
/-- What begin answers. -/
def BegR (B : Nat) (a : Va) (h : Hd) (w : World) (e : Ending) (w' : World) : Prop := ∃ ins made ps, e = .returned (.tuple #[made, ins]) ∧ Kid w B a h ps ∧ (∀ Q, Q < w.heap.size ∨ w'.heap.size ≤ Q → Fo w' w.heap.size w'.heap.size Q a ins made ps 0) ∧ Below w.heap.size w w'
theorem begin_any (a : Va) (B : Nat) (u : Hd) (q : Addr) (w : World) (H : Lies w (fun b => b < B) a u) (hq : At5 w q u) (hsh : a.Sh) (hcn : a.cnt ≤ 1000) : Calls Try.prog 72 #[.pointer (some q)] w fun e w' => BegR B a u w e w' := by
  by_cases h4 : u.k = 4
  · obtain ⟨k, n, s, l, ks, f⟩ := a
    have Hop := H.op
    simp only [Lies] at H
    obtain ⟨⟨e1, _, _, e4, _, _⟩, -, -, -⟩ := H
    obtain rfl : k = 4 := by omega
    obtain ⟨q0, q1, q2, q3, q5⟩ := hq
    rw [h4] at q0
    rw [e4] at q3
    simp only [Va.cnt] at hcn
    have hl1 := len_le_cntL l
    refine (odd_4 l.length u.lc u.A q w (by omega) (fun h => ?_) q0 q3).mono ?_
    · obtain ⟨ad, _, e, _⟩ := Hop.L 0 _ (List.getElem?_eq_getElem h)
      exact ⟨ad, e⟩
    rintro e w' ⟨g, I, rfl, ne, lg, lI, rg, rI, hb⟩
    refine ⟨_, _, ptrL u.A, rfl, fun i c hc => ?_, fun Q hQ => ?_, hb⟩
    · obtain ⟨ad, u', e, hS, hbl, hL, hA⟩ := Hop.L i c hc
      exact ⟨ad.add (i * 5), u', by rw [e]; rfl, by rw [adb]; exact hS, hA, hL, .L hc e hA⟩
    · have h1 := rg.lt
      have h2 := rI.lt
      exact .list (by omega) (Nat.zero_le _) ne ⟨lg, h1, by omega⟩ ⟨lI, h2, by omega⟩ rI rg (fun i c h => by omega)
  by_cases h5 : u.k = 5
  · obtain ⟨k, n, s, l, ks, f⟩ := a
    have Hop := H.op
    simp only [Lies] at H
    obtain ⟨⟨e1, _, _, _, e5, e6⟩, -, -, -⟩ := H
    obtain rfl : k = 5 := by omega
    obtain ⟨q0, q1, q2, q3, q5⟩ := hq
    rw [h5] at q0
    rw [e5] at q5
    simp only [Va.cnt] at hcn
    simp only [Va.Sh] at hsh
    have hl1 := len_le_cntL f
    refine (odd_5 f.length u.fc ks u.F q w (by omega) e6 hsh.2.2.1 (Hop.keys e6) q0 q5).mono ?_
    rintro e w' ⟨g, I, rfl, ne, lg, lI, rg, rI, hb⟩
    refine ⟨_, _, ptrF u.F, rfl, fun i c hc => ?_, fun Q hQ => ?_, hb⟩
    · obtain ⟨ad, u', key, e, hS, hbl, _, _, hL, hA⟩ := Hop.K i c hc
      exact ⟨⟨(ad.add (i * 6)).block, (ad.add (i * 6)).off + 1, none⟩, u', by rw [e]; rfl, by show (ad.add (i * 6)).block < B; rw [adb]; exact hS, hA.2, hL, .K hc e hA⟩
    · have h1 := rg.lt
      have h2 := rI.lt
      refine .obj (by omega) e6 (Nat.zero_le _) ne ⟨lg, h1, by omega⟩ ⟨lI, h2, by omega⟩ rI rg (fun i x hx => ?_) (fun i c h => by omega)
      have hi : i < f.length := by have := (List.getElem?_eq_some_iff.1 hx).1; omega
      simp [memUp, hi, List.getD, hx]
  · refine (odd_leaf a _ u q w H hq hsh h4 h5).mono ?_
    rintro e w' ⟨x, rfl, hL, hb⟩
    have hk : a.kids = [] := by
      obtain ⟨k, n, s, l, ks, f⟩ := a
      simp only [Lies] at H
      obtain ⟨⟨rfl, _⟩, -⟩ := H
      simp [Va.kids, h4, h5]
    exact ⟨_, _, fun _ => .nilIface, rfl, fun i c hc => by rw [hk] at hc; simp at hc, fun Q hQ => .leaf hk hL, hb⟩
end Go.Proofs.Ytlhmdbloddpfbaa
