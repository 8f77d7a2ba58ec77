/- The path of a value; plain. -/
import Derived.Test.YtmdlcalnncncjaaPRefV
set_option linter.unusedVariables false
set_option linter.unusedSimpArgs false
namespace Go.Proofs.Ytmdlcalnncncjaa
open Go.RowKit Classical
/-- The step that a value tells. -/
def elSt : Va → Option St
  | .mk k n s _ _ _ => if k = 3 then some ⟨s, 0, false⟩ else if k = 2 then some ⟨ByteArray.empty, n, true⟩ else none
def ofL : List Va → Option (List St)
  | [] => some []
  | x :: r => match elSt x, ofL r with
    | some s, some p => some (s :: p)
    | _, _ => none
theorem ofL_app : ∀ (l r : List Va), ofL (l ++ r) = match ofL l, ofL r with
    | some p, some q => some (p ++ q)
    | _, _ => none
  | [], r => by simp only [List.nil_append, ofL]; cases ofL r <;> rfl
  | x :: l, r => by
    simp only [List.cons_append, ofL, ofL_app l r]
    cases elSt x <;> cases ofL l <;> cases ofL r <;> rfl
theorem ofL_next {l : List Va} {i : Nat} {x : Va} {s : St} {p : List St} (h : ofL (l.take i) = some p) (hx : l[i]? = some x) (hs : elSt x = some s) : ofL (l.take (i + 1)) = some (p ++ [s]) := by
  rw [take_next hx, ofL_app, h]
  simp [ofL, hs]
theorem ofL_none {l : List Va} {x : Va} (hx : x ∈ l) (hs : elSt x = none) : ofL l = none := by
  induction l with
  | nil => simp at hx
  | cons y r ih =>
    simp only [ofL]
    rcases List.mem_cons.1 hx with rfl | h
    · rw [hs]
    · rw [ih h]; cases elSt y <;> rfl
theorem ofL_len : ∀ {l : List Va} {p : List St}, ofL l = some p → p.length = l.length
  | [], p, h => by simp only [ofL, Option.some.injEq] at h; subst h; rfl
  | x :: r, p, h => by
    simp only [ofL] at h
    cases hs : elSt x with
    | none => rw [hs] at h; simp at h
    | some s =>
      cases hr : ofL r with
      | none => rw [hs, hr] at h; simp at h
      | some q =>
        rw [hs, hr] at h
        simp only [Option.some.injEq] at h
        subst h
        simp [ofL_len hr]
/-- Steps, if they are a right path. -/
noncomputable def ofM : Option (List St) → Option (List St)
  | some p => if PathR p then some p else none
  | none => none
theorem ofM_yes {p : List St} (h : PathR p) : ofM (some p) = some p := by simp [ofM, h]
theorem ofM_no {p : List St} (h : ¬ PathR p) : ofM (some p) = none := by simp [ofM, h]
/-- The path of a value, if it is one's. -/
noncomputable def ofV : Va → Option (List St)
  | .mk k n s l ks f => if k = 4 ∧ (Va.mk k n s l ks f).R 12 then ofM (ofL l) else none
theorem ofV_yes {n : Int} {s : ByteArray} {l : List Va} {ks : List ByteArray} {f : List Va} (h : (Va.mk 4 n s l ks f).R 12) : ofV (.mk 4 n s l ks f) = ofM (ofL l) := by
  simp only [ofV]
  rw [if_pos ⟨trivial, h⟩]
theorem ofV_kind {k n : Int} {s : ByteArray} {l : List Va} {ks : List ByteArray} {f : List Va} (h : ¬ k = 4) : ofV (.mk k n s l ks f) = none := by
  simp only [ofV]
  rw [if_neg (fun q => h q.1)]
theorem ofV_wrong {k n : Int} {s : ByteArray} {l : List Va} {ks : List ByteArray} {f : List Va} (h : ¬ (Va.mk k n s l ks f).R 12) : ofV (.mk k n s l ks f) = none := by
  simp only [ofV]
  rw [if_neg (fun q => h q.2)]
theorem ofL_path : ∀ {p : List St}, (∀ s ∈ p, StR s) → ofL (p.map stVa) = some p
  | [], _ => rfl
  | s :: p, h => by
    have h1 := h s (by simp)
    have h2 : elSt (stVa s) = some s := by
      obtain ⟨sk, sa, si⟩ := s
      rcases h1 with ⟨e, hk, _⟩ | ⟨e, ha, _⟩
      · simp only at e hk
        subst e
        rw [show sk = ByteArray.empty from empty_of hk]
        rfl
      · simp only at e ha
        subst e ha
        rfl
    rw [List.map_cons, ofL, h2, ofL_path (fun t ht => h t (by simp [ht]))]
theorem RL_path {d : Nat} (hd : 1 ≤ d) : ∀ {p : List St}, (∀ s ∈ p, StR s) → RL (p.map stVa) d
  | [], _ => by simp [RL]
  | s :: p, h => by
    rw [List.map_cons, RL]
    refine ⟨?_, RL_path hd (fun t ht => h t (by simp [ht]))⟩
    obtain ⟨sk, sa, si⟩ := s
    rcases h _ (List.mem_cons_self ..) with ⟨e, hk, h3, h4⟩ | ⟨e, ha, hr⟩
    · simp only at e hk h3 h4
      subst e
      simp only [stVa, Va.R, RL]
      exact ⟨hd, ⟨by decide, by decide, fun h => h.2.1 rfl, by decide, by decide, by decide, (fun h => absurd h.1 (by decide)), by omega, by omega, rightB_empty⟩, KeysP_nil, trivial, trivial⟩
    · simp only at e ha hr
      subst e ha
      simp only [stVa, Va.R, RL]
      exact ⟨hd, ⟨by decide, by decide, by decide, fun h => h.1 rfl, by decide, by decide, by decide, by decide, by decide, hr⟩, KeysP_nil, trivial, trivial⟩
theorem R_path {p : List St} (h : PathR p) : (pathVa p).R 12 := by
  simp only [pathVa, Va.R, RL]
  exact ⟨by decide, ⟨by decide, by decide, by decide, by decide, fun h => h.1 rfl, by simp, by decide, by decide, by decide, rightB_empty⟩, KeysP_nil, RL_path (by decide) h.2, trivial⟩
theorem ofV_path {p : List St} (h : PathR p) : ofV (pathVa p) = some p := by
  have h1 := R_path h
  unfold pathVa at *
  rw [ofV_yes h1, ofL_path h.2, ofM_yes h]
theorem sh_path {p : List St} (h : FewS p) : (pathVa p).Sh ∧ (pathVa p).cnt ≤ 41 := by
  have hs : ∀ {q : List St}, (∀ s ∈ q, s.k.size ≤ 200) → ShL (q.map stVa) ∧ cntL (q.map stVa) = q.length := by
    intro q
    induction q with
    | nil => intro _; exact ⟨by simp [ShL], rfl⟩
    | cons s q ih =>
      intro hq
      have h2 := ih (fun t ht => hq t (by simp [ht]))
      have h3 := hq s (by simp)
      rw [List.map_cons, ShL, cntL]
      obtain ⟨sk, sa, si⟩ := s
      simp only at h3
      cases si
      · simp only [stVa, Va.Sh, Va.cnt, ShL, cntL, List.length_cons]
        exact ⟨⟨⟨by omega, trivial, by simp, trivial⟩, h2.1⟩, by rw [h2.2]; omega⟩
      · simp only [stVa, Va.Sh, Va.cnt, ShL, cntL, List.length_cons]
        exact ⟨⟨⟨by decide, trivial, by simp, trivial⟩, h2.1⟩, by rw [h2.2]; omega⟩
  have h1 := hs h.2
  simp only [pathVa, Va.Sh, Va.cnt, ShL, cntL]
  exact ⟨⟨by decide, h1.1, by simp, trivial⟩, by have := h.1; rw [h1.2]; omega⟩
end Go.Proofs.Ytmdlcalnncncjaa
