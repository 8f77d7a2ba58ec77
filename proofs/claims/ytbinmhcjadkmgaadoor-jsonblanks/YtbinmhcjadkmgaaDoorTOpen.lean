/- An argument that is a value, opened. -/
import Derived.Test.YtbinmhcjadkmgaaDoorTLawA
set_option linter.unusedVariables false
set_option linter.unusedSimpArgs false
namespace Go.Proofs.YtbinmhcjadkmgaaDoor
open Go.RowKit Go.ChangeShapes Go.WideShapes Go.Deep
theorem list_of {α : Type} {p : Nat → α → Prop} : ∀ n, (∀ i, i < n → ∃ x, p i x) → ∃ l : List α, l.length = n ∧ ∀ (i : Nat) x, l[i]? = some x → p i x
  | 0, _ => ⟨[], rfl, fun i x h => by simp at h⟩
  | n + 1, h => by
    obtain ⟨l, hl, hp⟩ := list_of n (fun i hi => h i (by omega))
    obtain ⟨x, hx⟩ := h n (by omega)
    refine ⟨l ++ [x], by simp [hl], fun i y hy => ?_⟩
    by_cases e : i < n
    · rw [List.getElem?_append_left (by omega)] at hy
      exact hp i y hy
    · have hi : i < (l ++ [x]).length := (List.getElem?_eq_some_iff.1 hy).1
      simp [hl] at hi
      obtain rfl : i = n := by omega
      rw [List.getElem?_append_right (by omega), hl] at hy
      simp at hy
      subst hy
      exact hx
theorem cells25 : Tryd.prog.cellsOf 25 = 5 := by kernel_rfl
theorem cells36 : Tryd.prog.cellsOf 48 = 6 := by kernel_rfl
theorem cells3 : Tryd.prog.cellsOf 3 = 1 := by kernel_rfl
theorem cells2 : Tryd.prog.cellsOf 2 = 1 := by kernel_rfl
theorem cells9 : Tryd.prog.cellsOf 9 = 1 := by kernel_rfl
theorem cells22 : Tryd.prog.cellsOf 22 = 1 := by kernel_rfl
theorem cells23 : Tryd.prog.cellsOf 23 = 1 := by kernel_rfl
section
variable {H : Type} {enc : TypeId × Value → H} {W : World} {base : Nat} {spare : Nat → Bool} {held : Bool}
theorem five_of {cs : List Value} (h : cs.length = 5) : ∃ a b c d e, cs = [a, b, c, d, e] := by
  match cs, h with
  | [a, b, c, d, e], _ => exact ⟨a, b, c, d, e, rfl⟩
theorem six_of {cs : List Value} (h : cs.length = 6) : ∃ a b c d e f, cs = [a, b, c, d, e, f] := by
  match cs, h with
  | [a, b, c, d, e, f], _ => exact ⟨a, b, c, d, e, f, rfl⟩
theorem wf_bounds {n : Int} (h : (Lit.int .i64 n).wf = true) : -9223372036854775808 ≤ n ∧ n ≤ 9223372036854775807 := by
  exact bounds_i64 h
set_option maxRecDepth 100000 in
theorem is_value : ∀ (fuel : Nat) (cs : List Value) (x : DataW H × List MemPlace), DataW.trod enc Tryd.prog W base spare held fuel 25 cs = some x → ∃ a h, cs = Hd.cells h ∧ Lies W (fun _ => True) a h := by
  intro fuel
  induction fuel using Nat.strongRecOn with
  | _ fuel ih =>
    intro cs x hx
    obtain ⟨xs, n, hn, -, hlen, hxl, hf⟩ := DataW.trod_struct Tryd.underlying25 hx
    rw [cells25] at hlen
    obtain ⟨c0, c1, c2, c3, c4, rfl⟩ := five_of hlen
    have f0 : DataW.trod enc Tryd.prog W base spare held n 3 (([c0, c1, c2, c3, c4].drop 0).take (Tryd.prog.cellsOf 3)) = xs[0]? := hf 0 _ rfl
    have f1 : DataW.trod enc Tryd.prog W base spare held n 2 (([c0, c1, c2, c3, c4].drop 1).take (Tryd.prog.cellsOf 2)) = xs[1]? := hf 1 _ rfl
    have f2 : DataW.trod enc Tryd.prog W base spare held n 9 (([c0, c1, c2, c3, c4].drop 2).take (Tryd.prog.cellsOf 9)) = xs[2]? := hf 2 _ rfl
    have f3 : DataW.trod enc Tryd.prog W base spare held n 22 (([c0, c1, c2, c3, c4].drop 3).take (Tryd.prog.cellsOf 22)) = xs[3]? := hf 3 _ rfl
    have f4 : DataW.trod enc Tryd.prog W base spare held n 23 (([c0, c1, c2, c3, c4].drop 4).take (Tryd.prog.cellsOf 23)) = xs[4]? := hf 4 _ rfl
    rw [cells3] at f0
    rw [cells2] at f1
    rw [cells9] at f2
    rw [cells22] at f3
    rw [cells23] at f4
    have hx5 : xs.length = 5 := hxl
    rw [List.getElem?_eq_getElem (by omega)] at f0 f1 f2 f3 f4
    obtain ⟨k, e0, -, w0⟩ := DataW.trod_int Tryd.underlying3 f0
    obtain ⟨m, e1, -, w1⟩ := DataW.trod_int Tryd.underlying2 f1
    obtain ⟨s, e2, -, w2⟩ := DataW.trod_string Tryd.underlying9 f2
    have g0 : c0 = .int .i64 k := by simpa using e0
    have g1 : c1 = .int .i64 m := by simpa using e1
    have g2 : c2 = .string s := by simpa using e2
    subst g0 g1 g2
    have hL : ∃ (A : Option Addr) (la lc : Nat) (l : List Va) (us : List Hd), c3 = .slice A la lc ∧ la = l.length ∧ la ≤ lc ∧ la ≤ maxLen ∧ RowAt W (fun _ => True) 5 A (us.map Hd.cells) ∧ LiesL W (fun _ => True) l us := by
      rcases DataW.trod_slice Tryd.underlying22 f3 with ⟨e, -⟩ | ⟨ad, len, cap, elems, rest, n', hn', e, -, hb, hlc, hm, hel, hE, -, -⟩
      · exact ⟨none, 0, 0, [], [], by simpa using e, rfl, Nat.le_refl _, by decide, fun h => by simp at h, by unfold LiesL; rfl⟩
      · have hall : ∀ i, i < len → ∃ p : Va × Hd, Lies W (fun _ => True) p.1 p.2 ∧ ∀ (j : Nat) u, p.2.cells[j]? = some u → W.cell? (ad.add (i * 5 + j)) = some u := by
          intro i hi
          have h1 := hE i hi
          rw [List.getElem?_eq_getElem (by omega), Option.bind_eq_some_iff] at h1
          obtain ⟨cs', hc, ht⟩ := h1
          obtain ⟨a, h, rfl, hl⟩ := ih n' (by omega) cs' _ ht
          refine ⟨(a, h), hl, fun j u hu => ?_⟩
          obtain ⟨-, hcl, hat⟩ := World.cells?_some hc
          have hj : j < 5 := (List.getElem?_eq_some_iff.1 hu).1
          have := hat j (by rw [cells25]; exact hj)
          rw [cells25, ada] at this
          rw [this]
          exact hu
        obtain ⟨pl, hpl, hp⟩ := list_of len hall
        refine ⟨some ad, len, cap, pl.map (·.1), pl.map (·.2), by simpa using e, by simp [hpl], hlc, by omega, fun _ => ⟨ad, rfl, trivial, fun i c hi j u hu => ?_⟩, LiesL_mk (by simp) fun i y v hy hv => ?_⟩
        · rw [List.map_map, List.getElem?_map, Option.map_eq_some_iff] at hi
          obtain ⟨q, hq, rfl⟩ := hi
          exact (hp i q hq).2 j u hu
        · rw [List.getElem?_map, Option.map_eq_some_iff] at hy hv
          obtain ⟨q, hq, rfl⟩ := hy
          obtain ⟨q', hq', rfl⟩ := hv
          rw [hq] at hq'
          cases hq'
          exact (hp i q hq).1
    have hF : ∃ (F : Option Addr) (lf fc : Nat) (ks : List ByteArray) (f : List Va) (vs : List Hd), c4 = .slice F lf fc ∧ lf = f.length ∧ ks.length = f.length ∧ lf ≤ fc ∧ lf ≤ maxLen ∧ (∀ x ∈ ks, x.size ≤ maxLen) ∧ RowAt W (fun _ => True) 6 F ((ks.zip vs).map pcells) ∧ LiesL W (fun _ => True) f vs := by
      rcases DataW.trod_slice Tryd.underlying23 f4 with ⟨e, -⟩ | ⟨ad, len, cap, elems, rest, n', hn', e, -, hb, hlc, hm, hel, hE, -, -⟩
      · exact ⟨none, 0, 0, [], [], [], by simpa using e, rfl, rfl, Nat.le_refl _, by decide, by simp, fun h => by simp at h, by unfold LiesL; rfl⟩
      · have hall : ∀ i, i < len → ∃ p : ByteArray × Va × Hd, p.1.size ≤ maxLen ∧ Lies W (fun _ => True) p.2.1 p.2.2 ∧ ∀ (j : Nat) u, (pcells (p.1, p.2.2))[j]? = some u → W.cell? (ad.add (i * 6 + j)) = some u := by
          intro i hi
          have h1 := hE i hi
          rw [List.getElem?_eq_getElem (by omega), Option.bind_eq_some_iff] at h1
          obtain ⟨cs', hc, ht⟩ := h1
          obtain ⟨ys, n2, hn2, -, hlen2, hyl, hg⟩ := DataW.trod_struct Tryd.underlying48 ht
          rw [cells36] at hlen2
          obtain ⟨d0, d1, d2, d3, d4, d5, rfl⟩ := six_of hlen2
          have g0 : DataW.trod enc Tryd.prog W base spare held n2 9 (([d0, d1, d2, d3, d4, d5].drop 0).take (Tryd.prog.cellsOf 9)) = ys[0]? := hg 0 _ rfl
          have g1 : DataW.trod enc Tryd.prog W base spare held n2 25 (([d0, d1, d2, d3, d4, d5].drop 1).take (Tryd.prog.cellsOf 25)) = ys[1]? := hg 1 _ rfl
          rw [cells9] at g0
          rw [cells25] at g1
          have hy2 : ys.length = 2 := hyl
          rw [List.getElem?_eq_getElem (by omega)] at g0 g1
          obtain ⟨key, ek, -, wk⟩ := DataW.trod_string Tryd.underlying9 g0
          obtain ⟨a, h, eh, hl⟩ := ih n2 (by omega) _ _ g1
          have ek' : d0 = .string key := by simpa using ek
          have eh' : [d1, d2, d3, d4, d5] = h.cells := by simpa using eh
          subst ek'
          refine ⟨(key, a, h), wk, hl, fun j u hu => ?_⟩
          obtain ⟨-, hcl, hat⟩ := World.cells?_some hc
          have hj : j < 6 := (List.getElem?_eq_some_iff.1 hu).1
          have := hat j (by rw [cells36]; exact hj)
          rw [cells36, ada] at this
          rw [this]
          have e2 : pcells (key, h) = [.string key, d1, d2, d3, d4, d5] := by
            show .string key :: h.cells = _
            rw [← eh']
          rw [e2] at hu
          exact hu
        obtain ⟨pl, hpl, hp⟩ := list_of len hall
        have hz : (pl.map (·.1)).zip (pl.map (·.2.2)) = pl.map (fun p => (p.1, p.2.2)) := by
          clear hp hpl
          induction pl with
          | nil => rfl
          | cons q r ih2 => simp only [List.map_cons, List.zip_cons_cons, ih2]
        refine ⟨some ad, len, cap, pl.map (·.1), pl.map (·.2.1), pl.map (·.2.2), by simpa using e, by simp [hpl], by simp, hlc, by omega, ?_, ?_, LiesL_mk (by simp) fun i y v hy hv => ?_⟩
        · intro y hy
          obtain ⟨q, hq, rfl⟩ := List.mem_map.1 hy
          obtain ⟨i, hi⟩ := List.mem_iff_getElem?.1 hq
          exact (hp i q hi).1
        · rw [hz]
          refine fun _ => ⟨ad, rfl, trivial, fun i c hi j u hu => ?_⟩
          rw [List.map_map, List.getElem?_map, Option.map_eq_some_iff] at hi
          obtain ⟨q, hq, rfl⟩ := hi
          exact (hp i q hq).2.2 j u hu
        · rw [List.getElem?_map, Option.map_eq_some_iff] at hy hv
          obtain ⟨q, hq, rfl⟩ := hy
          obtain ⟨q', hq', rfl⟩ := hv
          rw [hq] at hq'
          cases hq'
          exact (hp i q hq).2.1
    obtain ⟨A, la, lc, l, us, rfl, hla, hlac, hlam, hrl, hll⟩ := hL
    obtain ⟨F, lf, fc, ks, f, vs, rfl, hlf, hkf, hlfc, hlfm, hkm, hrf, hlv⟩ := hF
    refine ⟨.mk k m s l ks f, ⟨k, m, s, A, la, lc, F, lf, fc⟩, rfl, ?_⟩
    unfold Lies
    exact ⟨⟨rfl, rfl, rfl, hla, hlf, hkf⟩, ⟨wf_bounds w0, wf_bounds w1, w2, hkm, by omega, by omega, by show l.length ≤ lc; omega, by show f.length ≤ fc; omega⟩, ⟨us, hrl, hll⟩, ⟨vs, hrf, hlv⟩⟩
set_option maxRecDepth 100000 in
theorem open_value {r : Reach} {b0 : Nat} {v : Value} {d : DataW H} {p : List MemPlace} (hv : Value.okWide Tryd.prog W r b0 25 v) (h : DataW.Trod enc Tryd.prog W base spare held 25 v d p) :
    ∃ a hd, v = Hd.val hd ∧ Lies W (fun _ => True) a hd := by
  obtain ⟨cs, rfl, hsz⟩ := okWide_struct Tryd.underlying25 hv
  obtain ⟨fuel, hf⟩ := h
  obtain ⟨a, hd, e, hl⟩ := is_value fuel _ _ hf
  refine ⟨a, hd, ?_, hl⟩
  have e' : cs.toList = hd.cells := e
  have : cs = hd.cells.toArray := by rw [← e']
  rw [this]
  rfl
end
end Go.Proofs.YtbinmhcjadkmgaaDoor
