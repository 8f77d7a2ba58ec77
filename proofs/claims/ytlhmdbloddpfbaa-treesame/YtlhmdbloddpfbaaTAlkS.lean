/- A value of one's own whose pairs are sorted in place. -/
import Derived.Test.YtlhmdbloddpfbaaTAlkO
set_option linter.unusedVariables false
set_option linter.unusedSimpArgs false
namespace Go.Proofs.Ytlhmdbloddpfbaa
open Go.RowKit
instance : Inhabited Hd := ⟨⟨0, 0, ByteArray.empty, none, 0, 0, none, 0, 0⟩⟩
instance : Inhabited Va := ⟨.mk 0 0 ByteArray.empty [] [] []⟩
theorem sw_size {w : World} {g m : Nat} {d' : Array El} {os : Array Obj} : (Go.Proofs.sortWorldK encE 6 w g 0 m d' os).heap.size = w.heap.size + os.size := by
  simp [Go.Proofs.sortWorldK, Go.Sort.grow, Go.Sort.putRowK, Go.Sort.putRow, Go.Sort.mapBlock]
theorem sw_other {w : World} {g m : Nat} {d' : Array El} {os : Array Obj} {b : Nat} (hb : b < w.heap.size) (hg : b ≠ g) : (Go.Proofs.sortWorldK encE 6 w g 0 m d' os).heap[b]? = w.heap[b]? := by
  simp only [Go.Proofs.sortWorldK, Go.Sort.grow, Go.Sort.putRowK, Go.Sort.putRow, Go.Sort.mapBlock, Go.Sort.ahead]
  rw [Array.getElem?_append_left (by simpa using hb), Array.getElem?_modify, if_neg (fun e => hg e.symm)]
theorem sw_row {w : World} {g m : Nat} {d' : Array El} {os : Array Obj} {c : Array Value} {e : TypeId} {fr : Nat × Nat} (hg : w.heap[g]? = some (.cells c e fr)) : (Go.Proofs.sortWorldK encE 6 w g 0 m d' os).heap[g]? = some (.cells (Go.Sort.putCells id 0 (Go.Sort.flatK encE 6 d') c) e fr) := by
  have hlt : g < w.heap.size := (Array.getElem?_eq_some_iff.1 hg).1
  simp only [Go.Proofs.sortWorldK, Go.Sort.grow, Go.Sort.putRowK, Go.Sort.putRow, Go.Sort.mapBlock, Go.Sort.ahead]
  rw [Array.getElem?_append_left (by simpa using hlt), Array.getElem?_modify, if_pos rfl, hg]
  rfl
theorem put_take {F c : Array Value} {n : Nat} (hF : F.size = n) (hn : n ≤ c.size) : (Go.Sort.putCells id 0 F c).toList.take n = F.toList := by
  apply List.ext_getElem?
  intro t
  by_cases ht : t < n
  · rw [List.getElem?_take_of_lt ht, Array.getElem?_toList, Array.getElem?_toList]
    simp only [Go.Sort.putCells, Array.getElem?_mapIdx]
    rw [Array.getElem?_eq_getElem (show t < c.size by omega), Array.getElem?_eq_getElem (show t < F.size by omega)]
    simp only [Option.map_some]
    rw [if_pos ⟨Nat.zero_le _, by omega⟩, Nat.sub_zero, getElem!_pos F t (by omega)]
    rfl
  · rw [List.getElem?_eq_none (by rw [List.length_take]; omega), List.getElem?_eq_none (by simp; omega)]
theorem sw_out {T : Nat → Prop} {w : World} {g m : Nat} {d' : Array El} {os : Array Obj} (hg : T g) : OutK T w (Go.Proofs.sortWorldK encE 6 w g 0 m d' os) :=
  ⟨rfl, rfl, rfl, by rw [sw_size]; omega, fun b h1 h2 => sw_other h1 (fun e => h2 (by rw [e]; exact hg))⟩
theorem own_set {w : World} {a : Va} {S S' : Nat → Prop} {h : Hd} (H : Own w a S h) (e : ∀ b, S' b ↔ S b) : Own w a S' h := by
  have : S' = S := funext fun b => propext (e b)
  rw [this]
  exact H
theorem Own.sortF {w : World} {k n : Int} {s : ByteArray} {l : List Va} {ks : List ByteArray} {f : List Va} {T : Nat → Prop} {h : Hd} (H : Own w (.mk k n s l ks f) T h) (hT : ∀ b, T b → b < w.heap.size) (h0 : 0 < f.length) :
    ∃ (g : Nat) (d : Array El), h.F = some ⟨g, 0, none⟩ ∧ T g ∧ d.size = f.length ∧ Go.Sort.HoldsK encE 6 w g 0 d ∧ d.toList.map (fun e => (e.key, e.x)) = ks.zip f ∧
      ∀ (d' : Array El) m os, d'.toList.Perm d.toList → Own (Go.Proofs.sortWorldK encE 6 w g 0 m d' os) (.mk k n s l (d'.toList.map El.key) (d'.toList.map El.x)) T h := by
  cases H with
  | mk us vs SL SF hd ul vl rl rf hl hf bl bf sl sf dl df dd =>
    have e4 := hd.1.2.2.2.1
    have e5 := hd.1.2.2.2.2.1
    have e6 := hd.1.2.2.2.2.2
    rcases rf.2 with ⟨_, h1⟩ | ⟨g, cap, cur, hv, _, hh, hle, hcm, hsz, ht⟩
    · omega
    · have eF : h.F = some ⟨g, 0, none⟩ := by injection hv
      have bg := bf g (by rw [eF]; rfl)
      have hgl := hT g bg.1
      let D : List El := (List.range f.length).map fun i => ⟨ks[i]!, vs[i]!, f[i]!, SF i⟩
      have hDl : D.length = f.length := by simp [D]
      have hDi : ∀ (i : Nat) e, D[i]? = some e → ∃ key u x, ks[i]? = some key ∧ vs[i]? = some u ∧ f[i]? = some x ∧ e = ⟨key, u, x, SF i⟩ := by
        intro i e he
        have hi : i < f.length := by have := (List.getElem?_eq_some_iff.1 he).1; omega
        have : D[i]? = some ⟨ks[i]!, vs[i]!, f[i]!, SF i⟩ := by simp [D, List.getElem?_map, hi]
        rw [this] at he
        injection he with he
        refine ⟨ks[i], vs[i], f[i], List.getElem?_eq_getElem (by omega), List.getElem?_eq_getElem (by omega), List.getElem?_eq_getElem hi, ?_⟩
        rw [← he, getElem!_pos ks i (by omega), getElem!_pos vs i (by omega), getElem!_pos f i hi]
      have hD1 : D.map (fun e => (e.key, e.u)) = ks.zip vs := by
        apply List.ext_getElem?
        intro i
        by_cases hi : i < f.length
        · obtain ⟨key, u, x, a1, a2, a3, a4⟩ := hDi i D[i] (List.getElem?_eq_getElem (by omega))
          rw [List.getElem?_map, List.getElem?_eq_getElem (by omega), a4]
          exact (List.getElem?_zip_eq_some.2 ⟨a1, a2⟩).symm
        · rw [List.getElem?_eq_none (by simp [hDl]; omega), List.getElem?_eq_none (by simp; omega)]
      have hD2 : D.map (fun e => (e.key, e.x)) = ks.zip f := by
        apply List.ext_getElem?
        intro i
        by_cases hi : i < f.length
        · obtain ⟨key, u, x, a1, a2, a3, a4⟩ := hDi i D[i] (List.getElem?_eq_getElem (by omega))
          rw [List.getElem?_map, List.getElem?_eq_getElem (by omega), a4]
          exact (List.getElem?_zip_eq_some.2 ⟨a1, a3⟩).symm
        · rw [List.getElem?_eq_none (by simp [hDl]; omega), List.getElem?_eq_none (by simp; omega)]
      have hflat : ∀ m : List El, m.flatMap encE = (m.map fun e => (e.key, e.u)).flatMap pcells := fun m => by
        rw [List.flatMap_map]
        rfl
      refine ⟨g, D.toArray, eF, bg.1, by simpa using hDl, ?_, by simpa using hD2, fun d' m os hp => ?_⟩
      · intro j hj
        have h1 : (Go.Sort.flatK encE 6 D.toArray)[j]? = some (Go.Sort.flatK encE 6 D.toArray)[j]! := by rw [getElem!_pos _ j hj]; exact Array.getElem?_eq_getElem hj
        rw [← Array.getElem?_toList, flatK_list] at h1
        simp only [List.toList_toArray] at h1
        rw [hflat, hD1] at h1
        have h2 := rf.cells (g := g) (by rw [hv]; rfl) j _ h1
        rw [add0'] at h2
        refine ⟨by rw [Nat.zero_add]; exact h2, by simp [World.frozen?, hh]⟩
      · simp only [List.toList_toArray] at hp
        have hdl : d'.toList.length = f.length := hp.length_eq.trans hDl
        have hds : d'.size = f.length := by simpa using hdl
        have hmem : ∀ (i : Nat) e, d'.toList[i]? = some e → ∃ (j : Nat) (key : ByteArray) (u : Hd) (x : Va), ks[j]? = some key ∧ vs[j]? = some u ∧ f[j]? = some x ∧ e = ⟨key, u, x, SF j⟩ := by
          intro i e he
          obtain ⟨j, hj⟩ := List.mem_iff_getElem?.1 (hp.mem_iff.1 (List.mem_of_getElem? he))
          obtain ⟨key, u, x, a⟩ := hDi j e hj
          exact ⟨j, key, u, x, a⟩
        have hpw : D.Pairwise fun e e' => ∀ b, e.S b → e'.S b → False := by
          rw [List.pairwise_iff_getElem]
          intro i j hi hj hij b q1 q2
          obtain ⟨_, _, _, _, _, _, a4⟩ := hDi i D[i] (List.getElem?_eq_getElem hi)
          obtain ⟨_, _, _, _, _, _, c4⟩ := hDi j D[j] (List.getElem?_eq_getElem hj)
          rw [a4] at q1
          rw [c4] at q2
          have := df i j b q1 q2
          omega
        have hpw' : d'.toList.Pairwise fun e e' => ∀ b, e.S b → e'.S b → False := (hp.pairwise_iff (fun h b q1 q2 => h b q2 q1)).2 hpw
        rw [List.pairwise_iff_getElem] at hpw'
        refine Own.mk us (d'.toList.map El.u) SL (fun i b => ∃ e, d'.toList[i]? = some e ∧ e.S b) ?_ ul (by simp [hdl]) ?_ ?_ ?_ ?_ ?_ ?_ sl ?_ dl ?_ ?_
        · refine ⟨⟨hd.1.1, hd.1.2.1, hd.1.2.2.1, e4, by rw [List.length_map, hdl]; exact e5, by simp⟩, hd.2.1, hd.2.2.1, hd.2.2.2.1, fun x hx => ?_, hd.2.2.2.2.2.1, by rw [List.length_map, hdl]; exact hd.2.2.2.2.2.2.1, hd.2.2.2.2.2.2.2.1, by rw [List.length_map, hdl]; exact hd.2.2.2.2.2.2.2.2⟩
          obtain ⟨e, he, rfl⟩ := List.mem_map.1 hx
          obtain ⟨i, hi⟩ := List.mem_iff_getElem?.1 he
          obtain ⟨j, key, u, y, a1, _, _, a4⟩ := hmem i e hi
          rw [a4]
          exact hd.2.2.2.2.1 key (List.mem_of_getElem? a1)
        · exact own_block rl fun b hb => sw_other (hT b (bl b hb).1) (fun e => bg.2.2.2 (by rw [← e]; exact hb))
        · have hzip : ((d'.toList.map El.key).zip (d'.toList.map El.u)).flatMap pcells = (Go.Sort.flatK encE 6 d').toList := by
            rw [flatK_list, hflat]
            congr 1
            rw [List.zip_map']
          rw [List.length_map, hdl, hzip]
          have hFs : (Go.Sort.flatK encE 6 d').size = f.length * 6 := by rw [Go.Sort.size_flatK, hds]
          have hcs : f.length * 6 ≤ cur.size := by rw [hsz]; exact Nat.mul_le_mul_right 6 hle
          refine ⟨by rw [Array.length_toList]; exact hFs, .inr ⟨g, cap, _, hv, Nat.zero_le _, sw_row hh, hle, hcm, by simp [Go.Sort.putCells, hsz], put_take hFs hcs⟩⟩
        · intro i x u hx hu
          exact Own.keep _ _ _ (hl i x u hx hu) fun b hb => sw_other (hT b (sl i b hb)) (fun e => bg.2.1 i (by rw [← e]; exact hb))
        · intro i x u hx hu
          rw [List.getElem?_map, Option.map_eq_some_iff] at hx hu
          obtain ⟨e, he, rfl⟩ := hx
          obtain ⟨e', he', rfl⟩ := hu
          rw [he] at he'
          injection he' with he'
          subst he'
          obtain ⟨j, key, u, y, a1, a2, a3, a4⟩ := hmem i e he
          subst a4
          refine own_set (Own.keep _ _ _ (hf j y u a3 a2) fun b hb => sw_other (hT b (sf j b hb)) (fun e => bg.2.2.1 j (by rw [← e]; exact hb))) fun b => ⟨fun ⟨e2, q1, q2⟩ => ?_, fun q => ⟨_, he, q⟩⟩
          rw [he] at q1
          injection q1 with q1
          subst q1
          exact q2
        · intro b hb
          obtain ⟨a1, a2, a3⟩ := bl b hb
          refine ⟨a1, a2, fun i ⟨e, he, hS⟩ => ?_⟩
          obtain ⟨j, _, _, _, _, _, _, a4⟩ := hmem i e he
          subst a4
          exact a3 j hS
        · rw [List.length_map, hdl] at *
          intro b hb
          obtain ⟨a1, a2, a3, a5⟩ := bf b hb
          refine ⟨a1, a2, fun i ⟨e, he, hS⟩ => ?_, a5⟩
          obtain ⟨j, _, _, _, _, _, _, a4⟩ := hmem i e he
          subst a4
          exact a3 j hS
        · rintro i b ⟨e, he, hS⟩
          obtain ⟨j, _, _, _, _, _, _, a4⟩ := hmem i e he
          subst a4
          exact sf j b hS
        · rintro i j b ⟨e, he, hS⟩ ⟨e', he', hS'⟩
          obtain ⟨hi, rfl⟩ := List.getElem?_eq_some_iff.1 he
          obtain ⟨hj, rfl⟩ := List.getElem?_eq_some_iff.1 he'
          rcases Nat.lt_trichotomy i j with hij | hij | hij
          · exact (hpw' i j hi hj hij b hS hS').elim
          · exact hij
          · exact (hpw' j i hj hi hij b hS' hS).elim
        · rintro i j b q ⟨e, he, hS⟩
          obtain ⟨p, _, _, _, _, _, _, a4⟩ := hmem j e he
          subst a4
          exact dd i p b q hS
end Go.Proofs.Ytlhmdbloddpfbaa
