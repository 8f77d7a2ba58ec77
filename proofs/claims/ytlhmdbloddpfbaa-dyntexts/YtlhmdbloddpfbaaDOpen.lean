/- An argument that is a value, opened: it lies there, and none of its places is frozen. -/
import Derived.Test.YtlhmdbloddpfbaaTOpen
set_option linter.unusedVariables false
set_option linter.unusedSimpArgs false
namespace Go.Proofs.Ytlhmdbloddpfbaa
open Go.RowKit Go.ChangeShapes Go.WideShapes Go.Deep
theorem at5_one {w : World} {q : Addr} {u u' : Hd} (h : At5 w q u) (h' : At5 w q u') : u = u' := by
  obtain ⟨a0, a1, a2, a3, a4⟩ := h
  obtain ⟨b0, b1, b2, b3, b4⟩ := h'
  rw [a0] at b0; rw [a1] at b1; rw [a2] at b2; rw [a3] at b3; rw [a4] at b4
  injection b0 with b0; injection b0 with _ b0
  injection b1 with b1; injection b1 with _ b1
  injection b2 with b2; injection b2 with b2
  injection b3 with b3; injection b3 with x1 x2 x3
  injection b4 with b4; injection b4 with y1 y2 y3
  cases u; cases u'
  simp_all
theorem at6_one {w : World} {q : Addr} {k k' : ByteArray} {u u' : Hd} (h : At6 w q k u) (h' : At6 w q k' u') : k = k' ∧ u = u' := by
  have e := h.1
  rw [h'.1] at e
  injection e with e; injection e with e
  exact ⟨e.symm, at5_one (q := ⟨q.block, q.off + 1, none⟩) h.2 h'.2⟩
/-- A value, and one right inside it, and where that stands. -/
inductive Stp (w : World) : Va → Hd → Va → Addr → Hd → Prop
  | L {k n : Int} {s : ByteArray} {l : List Va} {ks : List ByteArray} {f : List Va} {h u : Hd} {i : Nat} {x : Va} {ad : Addr} (hx : l[i]? = some x) (hA : h.A = some ad) (hu : At5 w (ad.add (i * 5)) u) : Stp w (.mk k n s l ks f) h x (ad.add (i * 5)) u
  | K {k n : Int} {s : ByteArray} {l : List Va} {ks : List ByteArray} {f : List Va} {h u : Hd} {i : Nat} {x : Va} {ad : Addr} {key : ByteArray} (hx : f[i]? = some x) (hF : h.F = some ad) (hu : At6 w (ad.add (i * 6)) key u) : Stp w (.mk k n s l ks f) h x ⟨(ad.add (i * 6)).block, (ad.add (i * 6)).off + 1, none⟩ u
inductive Rch (w : World) : Va → Hd → Va → Addr → Hd → Prop
  | one {a c : Va} {h u : Hd} {p : Addr} (s : Stp w a h c p u) : Rch w a h c p u
  | cons {a b c : Va} {h v u : Hd} {q p : Addr} (s : Stp w a h b q v) (r : Rch w b v c p u) : Rch w a h c p u
/-- All places inside are among these. -/
def MemR (ps : List MemPlace) (w : World) (a : Va) (h : Hd) : Prop := ∀ c p u, Rch w a h c p u → MemPlace.cell p.block p.off ∈ ps
theorem row_mem {ad : Addr} {n j : Nat} (h : j < n) : MemPlace.cell ad.block (ad.off + j) ∈ MemPlace.row ad n := List.mem_map.2 ⟨j, List.mem_range.2 h, rfl⟩
theorem off_add {ad : Addr} {n : Nat} : (ad.add n).off = ad.off + n := by
  unfold Addr.add
  by_cases h : n = 0 <;> simp [h]
section
variable {H : Type} {enc : TypeId × Value → H} {W : World} {base : Nat} {spare : Nat → Bool} {held : Bool}
set_option maxRecDepth 100000 in
theorem is_valueU : ∀ (fuel : Nat) (cs : List Value) (x : DataW H × List MemPlace), DataW.trod enc Try.prog W base spare held fuel 25 cs = some x → ∃ a h, cs = Hd.cells h ∧ Lies W (fun _ => True) a h ∧ MemR x.2 W a h := by
  intro fuel
  induction fuel using Nat.strongRecOn with
  | _ fuel ih =>
    intro cs x hx
    obtain ⟨xs, n, hn, hxe, hlen, hxl, hf⟩ := DataW.trod_struct Try.underlying25 hx
    rw [cells25] at hlen
    obtain ⟨c0, c1, c2, c3, c4, rfl⟩ := five_of hlen
    have f0 : DataW.trod enc Try.prog W base spare held n 3 (([c0, c1, c2, c3, c4].drop 0).take (Try.prog.cellsOf 3)) = xs[0]? := hf 0 _ rfl
    have f1 : DataW.trod enc Try.prog W base spare held n 2 (([c0, c1, c2, c3, c4].drop 1).take (Try.prog.cellsOf 2)) = xs[1]? := hf 1 _ rfl
    have f2 : DataW.trod enc Try.prog W base spare held n 9 (([c0, c1, c2, c3, c4].drop 2).take (Try.prog.cellsOf 9)) = xs[2]? := hf 2 _ rfl
    have f3 : DataW.trod enc Try.prog W base spare held n 22 (([c0, c1, c2, c3, c4].drop 3).take (Try.prog.cellsOf 22)) = xs[3]? := hf 3 _ rfl
    have f4 : DataW.trod enc Try.prog W base spare held n 23 (([c0, c1, c2, c3, c4].drop 4).take (Try.prog.cellsOf 23)) = xs[4]? := hf 4 _ rfl
    rw [cells3] at f0
    rw [cells2] at f1
    rw [cells9] at f2
    rw [cells22] at f3
    rw [cells23] at f4
    have hx5 : xs.length = 5 := hxl
    rw [List.getElem?_eq_getElem (by omega)] at f0 f1 f2 f3 f4
    obtain ⟨k, e0, -, w0⟩ := DataW.trod_int Try.underlying3 f0
    obtain ⟨m, e1, -, w1⟩ := DataW.trod_int Try.underlying2 f1
    obtain ⟨s, e2, -, w2⟩ := DataW.trod_string Try.underlying9 f2
    have g0 : c0 = .int .i64 k := by simpa using e0
    have g1 : c1 = .int .i64 m := by simpa using e1
    have g2 : c2 = .string s := by simpa using e2
    subst g0 g1 g2
    have hL : ∃ (A : Option Addr) (la lc : Nat) (l : List Va) (us : List Hd), c3 = .slice A la lc ∧ la = l.length ∧ la ≤ lc ∧ la ≤ maxLen ∧ RowAt W (fun _ => True) 5 A (us.map Hd.cells) ∧ LiesL W (fun _ => True) l us ∧ (∀ (i : Nat) y, l[i]? = some y → ∃ ad u, A = some ad ∧ At5 W (ad.add (i * 5)) u ∧ MemPlace.cell (ad.add (i * 5)).block (ad.add (i * 5)).off ∈ xs[3].2 ∧ MemR xs[3].2 W y u) := by
      rcases DataW.trod_slice Try.underlying22 f3 with ⟨e, -⟩ | ⟨ad, len, cap, elems, rest, n', hn', e, he3, hb, hlc, hm, hel, hE, -, -⟩
      · exact ⟨none, 0, 0, [], [], by simpa using e, rfl, Nat.le_refl _, by decide, fun h => by simp at h, by unfold LiesL; rfl, fun i y hy => by simp at hy⟩
      · have hall : ∀ i, i < len → ∃ p : Va × Hd, (Lies W (fun _ => True) p.1 p.2 ∧ MemPlace.cell (ad.add (i * 5)).block (ad.add (i * 5)).off ∈ xs[3].2 ∧ MemR xs[3].2 W p.1 p.2) ∧ ∀ (j : Nat) u, p.2.cells[j]? = some u → W.cell? (ad.add (i * 5 + j)) = some u := by
          intro i hi
          have h1 := hE i hi
          rw [List.getElem?_eq_getElem (by omega), Option.bind_eq_some_iff] at h1
          obtain ⟨cs', hc, ht⟩ := h1
          obtain ⟨a, h, rfl, hl, hun⟩ := ih n' (by omega) cs' _ ht
          refine ⟨(a, h), ⟨hl, ?_, fun c p v hr => ?_⟩, fun j u hu => ?_⟩
          · rw [adb, off_add, he3]
            refine List.mem_append.2 (.inl (row_mem ?_))
            rw [cells25]
            omega
          · rw [he3]
            refine List.mem_append.2 (.inr (List.mem_flatMap.2 ⟨elems[i]'(by omega), List.mem_append.2 (.inl (List.getElem_mem _)), hun c p v hr⟩))
          obtain ⟨-, hcl, hat⟩ := World.cells?_some hc
          have hj : j < 5 := (List.getElem?_eq_some_iff.1 hu).1
          have := hat j (by rw [cells25]; exact hj)
          rw [cells25, ada] at this
          rw [this]
          exact hu
        obtain ⟨pl, hpl, hp⟩ := list_of len hall
        refine ⟨some ad, len, cap, pl.map (·.1), pl.map (·.2), by simpa using e, by simp [hpl], hlc, by omega, fun _ => ⟨ad, rfl, trivial, fun i c hi j u hu => ?_⟩, LiesL_mk (by simp) fun i y v hy hv => ?_, fun i y hy => ?_⟩
        · rw [List.map_map, List.getElem?_map, Option.map_eq_some_iff] at hi
          obtain ⟨q, hq, rfl⟩ := hi
          exact (hp i q hq).2 j u hu
        · rw [List.getElem?_map, Option.map_eq_some_iff] at hy hv
          obtain ⟨q, hq, rfl⟩ := hy
          obtain ⟨q', hq', rfl⟩ := hv
          rw [hq] at hq'
          cases hq'
          exact (hp i q hq).1.1
        · rw [List.getElem?_map, Option.map_eq_some_iff] at hy
          obtain ⟨q, hq, rfl⟩ := hy
          exact ⟨ad, q.2, rfl, At5.of (fun j c hj => by rw [ada]; exact (hp i q hq).2 j c hj), (hp i q hq).1.2.1, (hp i q hq).1.2.2⟩
    have hF : ∃ (F : Option Addr) (lf fc : Nat) (ks : List ByteArray) (f : List Va) (vs : List Hd), c4 = .slice F lf fc ∧ lf = f.length ∧ ks.length = f.length ∧ lf ≤ fc ∧ lf ≤ maxLen ∧ (∀ x ∈ ks, x.size ≤ maxLen) ∧ RowAt W (fun _ => True) 6 F ((ks.zip vs).map pcells) ∧ LiesL W (fun _ => True) f vs ∧ (∀ (i : Nat) y, f[i]? = some y → ∃ ad u key, F = some ad ∧ At6 W (ad.add (i * 6)) key u ∧ MemPlace.cell (ad.add (i * 6)).block ((ad.add (i * 6)).off + 1) ∈ xs[4].2 ∧ MemR xs[4].2 W y u) := by
      rcases DataW.trod_slice Try.underlying23 f4 with ⟨e, -⟩ | ⟨ad, len, cap, elems, rest, n', hn', e, he4, hb, hlc, hm, hel, hE, -, -⟩
      · exact ⟨none, 0, 0, [], [], [], by simpa using e, rfl, rfl, Nat.le_refl _, by decide, by simp, fun h => by simp at h, by unfold LiesL; rfl, fun i y hy => by simp at hy⟩
      · have hall : ∀ i, i < len → ∃ p : ByteArray × Va × Hd, p.1.size ≤ maxLen ∧ (Lies W (fun _ => True) p.2.1 p.2.2 ∧ MemPlace.cell (ad.add (i * 6)).block ((ad.add (i * 6)).off + 1) ∈ xs[4].2 ∧ MemR xs[4].2 W p.2.1 p.2.2) ∧ ∀ (j : Nat) u, (pcells (p.1, p.2.2))[j]? = some u → W.cell? (ad.add (i * 6 + j)) = some u := by
          intro i hi
          have h1 := hE i hi
          rw [List.getElem?_eq_getElem (by omega), Option.bind_eq_some_iff] at h1
          obtain ⟨cs', hc, ht⟩ := h1
          obtain ⟨ys, n2, hn2, hye, hlen2, hyl, hg⟩ := DataW.trod_struct Try.underlying36 ht
          rw [cells36] at hlen2
          obtain ⟨d0, d1, d2, d3, d4, d5, rfl⟩ := six_of hlen2
          have g0 : DataW.trod enc Try.prog W base spare held n2 9 (([d0, d1, d2, d3, d4, d5].drop 0).take (Try.prog.cellsOf 9)) = ys[0]? := hg 0 _ rfl
          have g1 : DataW.trod enc Try.prog W base spare held n2 25 (([d0, d1, d2, d3, d4, d5].drop 1).take (Try.prog.cellsOf 25)) = ys[1]? := hg 1 _ rfl
          rw [cells9] at g0
          rw [cells25] at g1
          have hy2 : ys.length = 2 := hyl
          rw [List.getElem?_eq_getElem (by omega)] at g0 g1
          obtain ⟨key, ek, -, wk⟩ := DataW.trod_string Try.underlying9 g0
          obtain ⟨a, h, eh, hl, hun⟩ := ih n2 (by omega) _ _ g1
          have ek' : d0 = .string key := by simpa using ek
          have eh' : [d1, d2, d3, d4, d5] = h.cells := by simpa using eh
          subst ek'
          refine ⟨(key, a, h), wk, ⟨hl, ?_, fun c p v hr => ?_⟩, fun j u hu => ?_⟩
          · rw [adb, off_add, Nat.add_assoc, he4]
            refine List.mem_append.2 (.inl (row_mem ?_))
            rw [cells36]
            omega
          · rw [he4]
            refine List.mem_append.2 (.inr (List.mem_flatMap.2 ⟨elems[i]'(by omega), List.mem_append.2 (.inl (List.getElem_mem _)), ?_⟩))
            rw [hye]
            exact List.mem_flatMap.2 ⟨ys[1]'(by omega), List.getElem_mem _, hun c p v hr⟩
          obtain ⟨-, hcl, hat⟩ := World.cells?_some hc
          have hj : j < 6 := (List.getElem?_eq_some_iff.1 hu).1
          have := hat j (by rw [cells36]; exact hj)
          rw [cells36, ada] at this
          rw [this]
          have e2 : pcells (key, h) = [.string key, d1, d2, d3, d4, d5] := by
            show .string key :: h.cells = _
            rw [← eh']
          rw [e2] at hu
          exact hu
        obtain ⟨pl, hpl, hp⟩ := list_of len hall
        have hz : (pl.map (·.1)).zip (pl.map (·.2.2)) = pl.map (fun p => (p.1, p.2.2)) := by
          clear hp hpl
          induction pl with
          | nil => rfl
          | cons q r ih2 => simp only [List.map_cons, List.zip_cons_cons, ih2]
        refine ⟨some ad, len, cap, pl.map (·.1), pl.map (·.2.1), pl.map (·.2.2), by simpa using e, by simp [hpl], by simp, hlc, by omega, ?_, ?_, LiesL_mk (by simp) fun i y v hy hv => ?_, fun i y hy => ?_⟩
        · intro y hy
          obtain ⟨q, hq, rfl⟩ := List.mem_map.1 hy
          obtain ⟨i, hi⟩ := List.mem_iff_getElem?.1 hq
          exact (hp i q hi).1
        · rw [hz]
          refine fun _ => ⟨ad, rfl, trivial, fun i c hi j u hu => ?_⟩
          rw [List.map_map, List.getElem?_map, Option.map_eq_some_iff] at hi
          obtain ⟨q, hq, rfl⟩ := hi
          exact (hp i q hq).2.2 j u hu
        · rw [List.getElem?_map, Option.map_eq_some_iff] at hy hv
          obtain ⟨q, hq, rfl⟩ := hy
          obtain ⟨q', hq', rfl⟩ := hv
          rw [hq] at hq'
          cases hq'
          exact (hp i q hq).2.1.1
        · rw [List.getElem?_map, Option.map_eq_some_iff] at hy
          obtain ⟨q, hq, rfl⟩ := hy
          exact ⟨ad, q.2.2, q.1, rfl, At6.of (fun j c hj => by rw [ada]; exact (hp i q hq).2.2 j c hj), (hp i q hq).2.1.2.1, (hp i q hq).2.1.2.2⟩
    obtain ⟨A, la, lc, l, us, rfl, hla, hlac, hlam, hrl, hll, huL⟩ := hL
    obtain ⟨F, lf, fc, ks, f, vs, rfl, hlf, hkf, hlfc, hlfm, hkm, hrf, hlv, huF⟩ := hF
    refine ⟨.mk k m s l ks f, ⟨k, m, s, A, la, lc, F, lf, fc⟩, rfl, ?_, fun c p v hr => ?_⟩
    rotate_left
    · have m3 : ∀ y ∈ xs[3].2, y ∈ x.2 := fun y hy => by rw [hxe]; exact List.mem_flatMap.2 ⟨xs[3]'(by omega), List.getElem_mem _, hy⟩
      have m4 : ∀ y ∈ xs[4].2, y ∈ x.2 := fun y hy => by rw [hxe]; exact List.mem_flatMap.2 ⟨xs[4]'(by omega), List.getElem_mem _, hy⟩
      cases hr with
      | one st =>
        cases st with
        | L hx1 hA1 hu1 =>
          obtain ⟨ad', u', e1, e2, e3, e4⟩ := huL _ _ hx1
          cases hA1.symm.trans e1
          exact m3 _ e3
        | K hx1 hF1 hu1 =>
          obtain ⟨ad', u', key', e1, e2, e3, e4⟩ := huF _ _ hx1
          cases hF1.symm.trans e1
          exact m4 _ e3
      | cons st r =>
        cases st with
        | L hx1 hA1 hu1 =>
          obtain ⟨ad', u', e1, e2, e3, e4⟩ := huL _ _ hx1
          cases hA1.symm.trans e1
          cases at5_one hu1 e2
          exact m3 _ (e4 _ _ _ r)
        | K hx1 hF1 hu1 =>
          obtain ⟨ad', u', key', e1, e2, e3, e4⟩ := huF _ _ hx1
          cases hF1.symm.trans e1
          cases (at6_one hu1 e2).2
          exact m4 _ (e4 _ _ _ r)
    unfold Lies
    exact ⟨⟨rfl, rfl, rfl, hla, hlf, hkf⟩, ⟨wf_bounds w0, wf_bounds w1, w2, hkm, by omega, by omega, by show l.length ≤ lc; omega, by show f.length ≤ fc; omega⟩, ⟨us, hrl, hll⟩, ⟨vs, hrf, hlv⟩⟩
set_option maxRecDepth 100000 in
theorem open_valueU {r : Reach} {b0 : Nat} {v : Value} {d : DataW H} {p : List MemPlace} (hv : Value.okWide Try.prog W r b0 25 v) (h : DataW.Trod enc Try.prog W base spare held 25 v d p) :
    ∃ a hd, v = Hd.val hd ∧ Lies W (fun _ => True) a hd ∧ MemR p W a hd := by
  obtain ⟨cs, rfl, hsz⟩ := okWide_struct Try.underlying25 hv
  obtain ⟨fuel, hf⟩ := h
  obtain ⟨a, hd, e, hl, hun⟩ := is_valueU fuel _ _ hf
  refine ⟨a, hd, ?_, hl, hun⟩
  have e' : cs.toList = hd.cells := e
  have : cs = hd.cells.toArray := by rw [← e']
  rw [this]
  rfl
end
end Go.Proofs.Ytlhmdbloddpfbaa
