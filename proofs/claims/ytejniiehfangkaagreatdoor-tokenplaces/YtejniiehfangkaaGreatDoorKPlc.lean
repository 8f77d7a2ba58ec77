/- Where tokens stand; plain. -/
import Derived.Test.YtejniiehfangkaaGreatDoorKPlain
set_option linter.unusedVariables false
set_option linter.unusedSimpArgs false
namespace Go.Proofs.YtejniiehfangkaaGreatDoor
/-- A string begins with its sign; what is none is just the bytes that stand there. -/
def FWh (l : List UInt8) : Fst → Prop
  | .ok k s m => (k = 4 ∧ l.head? = some 34) ∨ (k ≠ 4 ∧ s = l.take m ∧ s.length = m)
  | .no _ => True
theorem num_wh (l : List UInt8) : FWh l (numL l) := by
  have h := dgN_le l
  unfold numL
  split
  · trivial
  · exact .inr ⟨by decide, rfl, by rw [List.length_take, Nat.min_eq_left h]⟩
theorem raw_wh (l : List UInt8) (h : l.head? = some 34) : FWh l (rawL l) := by
  unfold rawL
  cases rawE 0 34 (l.drop 3) with
  | none => trivial
  | some j =>
    simp only
    split
    · trivial
    · exact .inl ⟨rfl, h⟩
theorem str_wh (l : List UInt8) (h : l.head? = some 34) : FWh l (strL l) := by
  unfold strL
  split
  · exact .inl ⟨rfl, h⟩
  · trivial
theorem nam_wh (l : List UInt8) : FWh l (namL l) := by
  unfold namL
  split
  · trivial
  · exact .inr ⟨by decide, rfl, by rw [List.length_take, Nat.min_eq_left (tk_le _ _)]⟩
theorem fst_wh (l : List UInt8) : FWh l (fstL l) := by
  unfold fstL
  cases l with
  | nil => trivial
  | cons c t =>
    simp only
    split
    · exact .inr ⟨by decide, by simp, rfl⟩
    split
    · split
      · rename_i h
        rw [List.isPrefixOf_iff_prefix] at h
        obtain ⟨r, hr⟩ := h
        exact .inr ⟨by decide, by rw [← hr]; rfl, rfl⟩
      · trivial
    split
    · exact num_wh _
    split
    · rename_i h
      have hc : (c :: t).head? = some 34 := by
        show some c = some 34
        rw [UInt8.toNat_inj.1 (show c.toNat = (34 : UInt8).toNat from h)]
      split
      · exact raw_wh _ hc
      · exact str_wh _ hc
    · exact nam_wh _
/-- Tokens stand at rising places, each as it is. -/
def plcs (L : List UInt8) : Nat → List Tkn → Prop
  | _, [] => True
  | fr, t :: ts => fr ≤ t.a ∧ t.a < L.length ∧ ((t.k = 4 ∧ (L.drop t.a).head? = some 34 ∧ plcs L (t.a + 1) ts) ∨ (t.k ≠ 4 ∧ 1 ≤ t.s.length ∧ t.a + t.s.length ≤ L.length ∧ t.s = (L.drop t.a).take t.s.length ∧ plcs L (t.a + t.s.length) ts))
theorem lexF_plcs (L : List UInt8) : ∀ (f e n : Nat) (nb : Bool) (ts : List Tkn) (fr : Nat), lexF f (L.drop e) e n nb = .inl ts → fr ≤ e → plcs L fr ts
  | 0, e, n, nb, ts, fr, h, _ => by simp [lexF] at h
  | f + 1, e, n, nb, ts, fr, h, hfr => by
    by_cases hb : betw false (L.drop e) < (L.drop e).length
    · by_cases hn : n = 900
      · rw [lexF_many hb hn] at h; cases h
      by_cases hp : betw false (L.drop e) = 0 ∧ nb = true ∧ hdP (L.drop e) = true
      · rw [lexF_part hb hn hp] at h; cases h
      cases hx : fstL ((L.drop e).drop (betw false (L.drop e))) with
      | no j => rw [lexF_no hb hn hp hx] at h; cases h
      | ok k s m =>
        have hst := fst_step hb hx
        have hwh := fst_wh ((L.drop e).drop (betw false (L.drop e)))
        rw [lexF_ok hb hn hp hx, List.drop_drop] at h
        rw [hx, List.drop_drop] at hwh
        generalize betw false (L.drop e) = b at *
        rw [List.length_drop] at hst hb
        cases hr : lexF f (L.drop (e + (b + m))) (e + b + m) (n + 1) (k == 3) with
        | inr q => rw [hr] at h; cases h
        | inl us =>
          rw [hr] at h
          have hts : ts = ⟨k, s, e + b⟩ :: us := by
            have := Sum.inl.inj h
            rw [← this]; rfl
          subst hts
          rw [← Nat.add_assoc] at hr
          refine ⟨by show fr ≤ e + b; omega, by show e + b < L.length; omega, ?_⟩
          rcases hwh with ⟨h4, hh⟩ | ⟨h4, hs, hl⟩
          · exact .inl ⟨h4, hh, lexF_plcs L f (e + b + m) (n + 1) (k == 3) us (e + b + 1) hr (by omega)⟩
          · refine .inr ⟨h4, by show 1 ≤ s.length; omega, by show e + b + s.length ≤ L.length; omega, by show s = (L.drop (e + b)).take s.length; rw [hl]; exact hs, ?_⟩
            exact lexF_plcs L f (e + b + m) (n + 1) (k == 3) us (e + b + s.length) hr (by omega)
    · rw [lexF_end (by omega)] at h
      cases h
      trivial
theorem plcs_len (L : List UInt8) : ∀ (ts : List Tkn) (fr : Nat), plcs L fr ts → fr ≤ L.length → fr + ts.length ≤ L.length
  | [], fr, _, h => by simpa using h
  | t :: us, fr, ⟨h1, h2, h3⟩, h => by
    have key : t.a + 1 + us.length ≤ L.length := by
      rcases h3 with ⟨_, _, hp⟩ | ⟨_, hn, hl, _, hp⟩
      · exact plcs_len L us (t.a + 1) hp (by omega)
      · have := plcs_len L us (t.a + t.s.length) hp hl
        omega
    simp only [List.length_cons]
    omega
theorem lexF_err : ∀ (f : Nat) (l : List UInt8) (e n : Nat) (nb : Bool) (q : Int × Nat), lexF f l e n nb = .inr q → q.1 ≠ 0 ∧ q.2 ≤ e + l.length
  | 0, l, e, n, nb, q, h => by
    simp only [lexF, Sum.inr.injEq] at h
    subst h
    exact ⟨by simp, by simp⟩
  | f + 1, l, e, n, nb, q, h => by
    by_cases hb : betw false l < l.length
    · by_cases hn : n = 900
      · rw [lexF_many hb hn] at h
        cases h
        exact ⟨by simp, by simp only; omega⟩
      by_cases hp : betw false l = 0 ∧ nb = true ∧ hdP l = true
      · rw [lexF_part hb hn hp] at h
        cases h
        exact ⟨by simp, by simp only; omega⟩
      cases hx : fstL (l.drop (betw false l)) with
      | no j =>
        rw [lexF_no hb hn hp hx] at h
        have hj := fst_in (l.drop (betw false l))
        rw [hx] at hj
        have hj2 : j ≤ (l.drop (betw false l)).length := hj
        rw [List.length_drop] at hj2
        cases h
        exact ⟨by simp, by simp only; omega⟩
      | ok k s m =>
        have hst := fst_step hb hx
        rw [lexF_ok hb hn hp hx] at h
        cases hr : lexF f (l.drop (betw false l + m)) (e + betw false l + m) (n + 1) (k == 3) with
        | inl us => rw [hr] at h; cases h
        | inr p =>
          rw [hr] at h
          have hp2 : p = q := Sum.inr.inj h
          subst hp2
          have := lexF_err f _ _ _ _ p hr
          rw [List.length_drop] at this
          exact ⟨this.1, by omega⟩
    · rw [lexF_end (by omega)] at h; cases h
theorem badI_le (s : ByteArray) : ∀ f i, badF s f i ≤ s.size ∧ (0 ≤ badF s f i → badF s f i ≤ s.size)
  | 0, i => by unfold badF; constructor <;> intros <;> omega
  | f + 1, i => by
    have h := badI_le s f (i + (Utf8.decode s i).2)
    unfold badF
    split
    · split
      · constructor <;> intros <;> omega
      · exact h
    · constructor <;> intros <;> omega
theorem lexB_err {s : ByteArray} {q : Int × Nat} (h : lexB s = .inr q) : q.1 ≠ 0 ∧ q.2 ≤ s.size := by
  unfold lexB at h
  split at h
  · cases h; exact ⟨by simp, by simp⟩
  split at h
  · cases h
    have := (badI_le s (s.size + 1) 0).1
    refine ⟨by simp, ?_⟩
    show (badI s).toNat ≤ s.size
    unfold badI
    omega
  · have := lexF_err _ _ _ _ _ _ h
    rw [← Lib.size_eq] at this
    exact ⟨this.1, by omega⟩
theorem lexB_ok {s : ByteArray} {ts : List Tkn} (h : lexB s = .inl ts) : s.size ≤ 4000 ∧ badI s < 0 ∧ lexL s.data.toList = .inl ts := by
  unfold lexB at h
  split at h
  · cases h
  split at h
  · cases h
  · exact ⟨by omega, by omega, h⟩
theorem lexB_plcs {s : ByteArray} {ts : List Tkn} (h : lexB s = .inl ts) : plcs s.data.toList 0 ts := by
  have h2 := (lexB_ok h).2.2
  unfold lexL at h2
  exact lexF_plcs s.data.toList (s.data.toList.length + 1) 0 0 false ts 0 (by rw [List.drop_zero]; exact h2) (Nat.le_refl _)
theorem lexB_len {s : ByteArray} {ts : List Tkn} (h : lexB s = .inl ts) : ts.length ≤ s.size := by
  have := plcs_len _ _ _ (lexB_plcs h) (Nat.zero_le _)
  rw [← Lib.size_eq] at this
  omega
end Go.Proofs.YtejniiehfangkaaGreatDoor
