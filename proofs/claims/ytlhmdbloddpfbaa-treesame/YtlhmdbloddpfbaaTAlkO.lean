/- A value of one's own, of which a part is turned in place. -/
import Derived.Test.YtlhmdbloddpfbaaTAlkA
import Derived.Test.YtlhmdbloddpfbaaTSpoil
import Derived.Shelf.GgSortFunc.InsertionK
set_option linter.unusedVariables false
set_option linter.unusedSimpArgs false
namespace Go.Proofs.Ytlhmdbloddpfbaa
open Go.RowKit
theorem set_get {α : Type} {l : List α} {i j : Nat} {y z : α} (h : (l.set i y)[j]? = some z) : (j = i ∧ z = y) ∨ (j ≠ i ∧ l[j]? = some z) := by
  by_cases e : j = i
  · subst e
    have hj : j < l.length := by
      have := (List.getElem?_eq_some_iff.1 h).1
      simpa using this
    rw [List.getElem?_set_self hj] at h
    injection h with h
    exact .inl ⟨rfl, h.symm⟩
  · rw [List.getElem?_set_ne (Ne.symm e)] at h
    exact .inr ⟨e, h⟩
/-- An element, and what becomes of the whole where it is turned. -/
theorem Own.atL {w : World} {k n : Int} {s : ByteArray} {l : List Va} {ks : List ByteArray} {f : List Va} {T : Nat → Prop} {h : Hd} (H : Own w (.mk k n s l ks f) T h) (hT : ∀ b, T b → b < w.heap.size) {i : Nat} {x : Va} (hx : l[i]? = some x) :
    ∃ ad u Ti, h.A = some ad ∧ ad.block < w.heap.size ∧ At5 w (ad.add (i * 5)) u ∧ Own w x Ti u ∧ (∀ b, Ti b → T b) ∧ ∀ w' y, OutK Ti w w' → Own w' y Ti u → Own w' (.mk k n s (l.set i y) ks f) T h := by
  cases H with
  | mk us vs SL SF hd ul vl rl rf hl hf bl bf sl sf dl df dd =>
    have hil : i < l.length := (List.getElem?_eq_some_iff.1 hx).1
    have e4 := hd.1.2.2.2.1
    obtain ⟨u, hu⟩ : ∃ u, us[i]? = some u := ⟨us[i], List.getElem?_eq_getElem (by omega)⟩
    rcases rl.2 with ⟨_, h0⟩ | ⟨g, cap, cur, hv, _, hh, hle, _, hsz, ht⟩
    · omega
    · have eA : h.A = some ⟨g, 0, none⟩ := by injection hv
      have bg := bl g (by rw [eA]; rfl)
      refine ⟨⟨g, 0, none⟩, u, SL i, eA, hT g bg.1, At5.of fun d c hc => ?_, hl i x u hx hu, sl i, fun w' y ho hy => ?_⟩
      · rw [ada]
        exact rl.cells (g := g) (by rw [hv]; rfl) (i * 5 + d) c (flat_at Hd.cells 5 us (fun _ _ => rfl) i u hu d c hc)
      · refine Own.mk us vs SL SF (by simpa using hd) (by simpa using ul) vl ?_ ?_ ?_ ?_ bl bf sl sf dl df dd
        · have hk := own_block (w' := w') rl fun b hb => ho.block b (hT b (bl b hb).1) ((bl b hb).2.1 i)
          simpa using hk
        · exact own_block rf fun b hb => ho.block b (hT b (bf b hb).1) ((bf b hb).2.1 i)
        · intro j z u' hz hu'
          rcases set_get hz with ⟨rfl, rfl⟩ | ⟨hne, hz⟩
          · rw [hu] at hu'
            injection hu' with hu'
            subst hu'
            exact hy
          · exact Own.keep _ _ _ (hl j z u' hz hu') fun b hb => ho.block b (hT b (sl j b hb)) (fun q => hne (dl _ _ _ hb q))
        · intro j z u' hz hu'
          exact Own.keep _ _ _ (hf j z u' hz hu') fun b hb => ho.block b (hT b (sf j b hb)) (fun q => dd _ _ _ q hb)
theorem Own.atF {w : World} {k n : Int} {s : ByteArray} {l : List Va} {ks : List ByteArray} {f : List Va} {T : Nat → Prop} {h : Hd} (H : Own w (.mk k n s l ks f) T h) (hT : ∀ b, T b → b < w.heap.size) {i : Nat} {x : Va} (hx : f[i]? = some x) :
    ∃ ad u Ti key, h.F = some ad ∧ ad.block < w.heap.size ∧ At6 w (ad.add (i * 6)) key u ∧ Own w x Ti u ∧ (∀ b, Ti b → T b) ∧ ∀ w' y, OutK Ti w w' → Own w' y Ti u → Own w' (.mk k n s l ks (f.set i y)) T h := by
  cases H with
  | mk us vs SL SF hd ul vl rl rf hl hf bl bf sl sf dl df dd =>
    have hil : i < f.length := (List.getElem?_eq_some_iff.1 hx).1
    have e6 := hd.1.2.2.2.2.2
    obtain ⟨u, hu⟩ : ∃ u, vs[i]? = some u := ⟨vs[i], List.getElem?_eq_getElem (by omega)⟩
    obtain ⟨key, hky⟩ : ∃ key, ks[i]? = some key := ⟨ks[i], List.getElem?_eq_getElem (by omega)⟩
    rcases rf.2 with ⟨_, h0⟩ | ⟨g, cap, cur, hv, _, hh, hle, _, hsz, ht⟩
    · omega
    · have eF : h.F = some ⟨g, 0, none⟩ := by injection hv
      have bg := bf g (by rw [eF]; rfl)
      refine ⟨⟨g, 0, none⟩, u, SF i, key, eF, hT g bg.1, At6.of fun d c hc => ?_, hf i x u hx hu, sf i, fun w' y ho hy => ?_⟩
      · rw [ada]
        exact rf.cells (g := g) (by rw [hv]; rfl) (i * 6 + d) c (flat_at pcells 6 (ks.zip vs) (fun _ _ => rfl) i (key, u) (List.getElem?_zip_eq_some.2 ⟨hky, hu⟩) d c hc)
      · refine Own.mk us vs SL SF (by simpa using hd) ul (by simpa using vl) ?_ ?_ ?_ ?_ bl bf sl sf dl df dd
        · exact own_block rl fun b hb => ho.block b (hT b (bl b hb).1) ((bl b hb).2.2 i)
        · have hk := own_block (w' := w') rf fun b hb => ho.block b (hT b (bf b hb).1) ((bf b hb).2.2.1 i)
          simpa using hk
        · intro j z u' hz hu'
          exact Own.keep _ _ _ (hl j z u' hz hu') fun b hb => ho.block b (hT b (sl j b hb)) (fun q => dd _ _ _ hb q)
        · intro j z u' hz hu'
          rcases set_get hz with ⟨rfl, rfl⟩ | ⟨hne, hz⟩
          · rw [hu] at hu'
            injection hu' with hu'
            subst hu'
            exact hy
          · exact Own.keep _ _ _ (hf j z u' hz hu') fun b hb => ho.block b (hT b (sf j b hb)) (fun q => hne (df _ _ _ hb q))
/-- A list of which the first i are turned. -/
def mixL (l : List Va) (i : Nat) : List Va := srtL (l.take i) ++ l.drop i
theorem mixL_zero (l : List Va) : mixL l 0 = l := by simp [mixL, srtL]
theorem mixL_all (l : List Va) : mixL l l.length = srtL l := by simp [mixL]
theorem mixL_get {l : List Va} {i : Nat} {x : Va} (h : l[i]? = some x) : (mixL l i)[i]? = some x := by
  have hil : i < l.length := (List.getElem?_eq_some_iff.1 h).1
  have hl : (srtL (l.take i)).length = i := by rw [srtL_length, List.length_take]; omega
  rw [mixL, List.getElem?_append_right (by omega), hl, List.getElem?_drop]
  simpa using h
theorem mixL_step {l : List Va} {i : Nat} {x : Va} (h : l[i]? = some x) : (mixL l i).set i x.srt = mixL l (i + 1) := by
  have hil : i < l.length := (List.getElem?_eq_some_iff.1 h).1
  have hx : x = l[i] := by rw [List.getElem?_eq_getElem hil] at h; injection h with h; exact h.symm
  subst hx
  have hl : (srtL (l.take i)).length = i := by rw [srtL_length, List.length_take]; omega
  rw [mixL, mixL, List.set_append_right _ _ (by omega), hl, Nat.sub_self, srtL_map, srtL_map, List.take_succ_eq_append_getElem hil, List.map_append, List.append_assoc]
  congr 1
  rw [List.drop_eq_getElem_cons hil]
  rfl
/-- What a row's element is: its key, its cells, its value, its blocks. -/
structure El where
  key : ByteArray
  u : Hd
  x : Va
  S : Nat → Prop
instance : Inhabited El := ⟨⟨ByteArray.empty, ⟨0, 0, ByteArray.empty, none, 0, 0, none, 0, 0⟩, .mk 0 0 ByteArray.empty [] [] [], fun _ => False⟩⟩
def encE (e : El) : List Value := pcells (e.key, e.u)
theorem encE_len (e : El) : (encE e).length = 6 := rfl
theorem encE_one (e : El) : ∀ v ∈ encE e, v.oneCell' = true := by
  intro v hv
  simp only [encE, pcells, Hd.cells, List.mem_cons, List.not_mem_nil, or_false] at hv
  rcases hv with rfl | rfl | rfl | rfl | rfl | rfl <;> rfl
theorem flatK_list (d : Array El) : (Go.Sort.flatK encE 6 d).toList = d.toList.flatMap encE := by
  apply List.ext_getElem?
  intro t
  have hlen : ∀ m : List El, (m.flatMap encE).length = m.length * 6 := by
    intro m
    induction m with
    | nil => rfl
    | cons x r ih => rw [List.flatMap_cons, List.length_append, ih, encE_len, List.length_cons]; omega
  by_cases ht : t < d.size * 6
  · have h1 : (Go.Sort.flatK encE 6 d)[t]! = (encE d[t / 6]!)[t % 6]! := Go.Sort.get_flatK encE 6 d t ht
    have hq : t / 6 < d.size := by omega
    have hr : t % 6 < 6 := by omega
    have hsz : t < (Go.Sort.flatK encE 6 d).size := by rw [Go.Sort.size_flatK]; exact ht
    rw [getElem!_pos _ t hsz, getElem!_pos d (t / 6) hq, getElem!_pos _ (t % 6) (by rw [encE_len]; exact hr)] at h1
    have h2 := flat_at encE 6 d.toList (fun _ _ => rfl) (t / 6) d[t / 6] (by simp [hq]) (t % 6) _ (List.getElem?_eq_getElem (by rw [encE_len]; exact hr))
    rw [show t / 6 * 6 + t % 6 = t by omega] at h2
    rw [h2, Array.getElem?_toList, Array.getElem?_eq_getElem hsz, h1]
  · rw [List.getElem?_eq_none, List.getElem?_eq_none]
    · rw [hlen]
      simp
      omega
    · simp
      omega
end Go.Proofs.Ytlhmdbloddpfbaa
