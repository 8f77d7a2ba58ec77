/- Several of the texts that this claim leans on, one behind the other. -/
import Derived.Test.YtejniiehfangkaaGreatDoorKTok
import Derived.Test.YtejniiehfangkaaGreatDoorTie
import Derived.ProofKit
import Derived.OpenShut
import Derived.ShutString
import Derived.ChangeOld
import Derived.HandedShaped
import Derived.LaidMore
import Derived.Lib.LaidTab
import Derived.Stop.LaidErr
import Derived.Test.YtejniiehfangkaaGreatDoorKPlain
/- The laws' start: what is listed, the world's shape, and the frame that hands both on. -/
set_option linter.unusedVariables false
set_option linter.unusedSimpArgs false
namespace Go.Proofs.YtejniiehfangkaaGreatDoor
open Go.ChangeShapes Go.WideShapes Go.ChangeAt Go.RowKit
/-- The frame of a law whose row lists variables and names others: what is listed and the world's shape are handed on. -/
theorem handed_both {H : Type} {enc : TypeId × Value → H} {a : Assume} {C : Checked} {os : Os} {f : FuncId} {fn : Func} {s : ChangeSpec} {conds : List PathCond} {apart fresh handsOn again : Bool} {X : World → Array Value → Prop}
    (hX : ∀ (w w' : World) (args : Array Value), w.heap = w'.heap → X w args → X w' args)
    (own : ownKnob C.prog.godebug = none) (started : os.Started) (noInit : C.prog.inits.idxOf? f = none) (hfn : C.prog.funcs[f]? = some fn)
    (witness : ∃ (w : World) (tape : Tape) (i : Input), w.os = os ∧ (w.forCall tape i).Shaped C.prog ∧ i.vars = [] ∧ Input.okWide C.prog (w.forCall tape i) .any w.heap.size f i ∧
      ((s.pre enc C.prog fn conds apart (w.forCall tape i).memory i.args ∧ X (w.forCall tape i).memory i.args) ∧ sizedMet enc C.prog fn (OpenSpec.ofChange s) apart (w.forCall tape i).memory i.args) ∧ a.holds C.prog (lone (Frame.enter C.prog f i.args .normal) [] (w.forCall tape i)))
    (contract : ∀ (W : World) (base : Nat) (args : Array Value) (ds gs : List (DataW H)) (before : List MemPlace),
      (∀ (j : Nat) t v, fn.params[j]? = some t → args[j]? = some v → Value.okWide C.prog W .any base t v) →
      DataW.Whole enc C.prog fn.params.toList s.vars apart W args.toList ds gs before → W.ShapedOpen C.prog → X W args →
      Calls C.prog f args W fun e W' => ∃ v, e = .returned v ∧ s.post enc C.prog fn apart fresh handsOn again W args v W') :
    ReturnsInHanded a C os f .any (fun w args => (s.pre enc C.prog fn conds apart w args ∧ X w args) ∧ sizedMet enc C.prog fn (OpenSpec.ofChange s) apart w args) (s.post enc C.prog fn apart fresh handsOn again) := by
  apply returnsInHanded_of_calls own started noInit witness
  intro w tape i _ shape _ ok pre _
  obtain ⟨⟨⟨ds, gs, before, whole, _⟩, hx⟩, _⟩ := pre
  obtain ⟨_, _, _, fn2, hfn2, _, _, _, _, vals⟩ := ok
  obtain rfl : fn2 = fn := Option.some.inj (hfn2.symm.trans hfn)
  have whole2 := DataW.Whole.of_heap (w' := w.forCall tape i) (by rfl) whole
  exact (contract (w.forCall tape i) w.heap.size i.args ds gs before vals whole2 shape (hX _ _ _ (by rfl) hx)).mono fun e W' ⟨v, he, hp⟩ => by
    subst he
    exact ChangeSpec.post_blind hp
theorem gErrR : Tryz.prog.globalNamed "strconv.ErrRange" = some 1 := by kernel_rfl
theorem tyErrR : (Tryz.prog.globals[(1 : Nat)]?).map (·.type) = some 56 := by kernel_rfl
theorem errR_of {r : List (String × DataW Unit)} {W : World} (h : laidMet Tryz.prog (("strconv.ErrRange", Rows.laid_strconv_ErrRange) :: r) W) : ∃ te pe, W.cell? ⟨1, 0, none⟩ = some (.iface te pe) := by
  obtain ⟨a, s, hv, _⟩ := laid_sentinel h gErrR tyErrR Tryz.underlying56 rowErr Tryz.underlying128 Tryz.underlying130 rfl rfl Tryz.underlying9 (by kernel_rfl) (by kernel_rfl)
  have := World.var?_cell gErrR hv 0
  exact ⟨_, _, by simpa using this⟩
theorem lv_of {x y z u : String × DataW Unit} {W : World} (h : laidMet Tryz.prog (x :: ("math/bits.deBruijn64tab", Rows.laid_math_bits_deBruijn64tab) :: y :: z :: ("strconv.ErrRange", Rows.laid_strconv_ErrRange) :: ("strconv.ErrSyntax", Rows.laid_strconv_ErrSyntax) :: [u]) W) (hs : W.ShapedOpen Tryz.prog) : LV W :=
  ⟨⟨tab_of h, err_of h.tail.tail.tail.tail.tail⟩, errR_of h.tail.tail.tail.tail, Tryz.laysM145.s1_3 W hs⟩
end Go.Proofs.YtejniiehfangkaaGreatDoor

/- Where tokens stand; plain. -/
set_option linter.unusedVariables false
set_option linter.unusedSimpArgs false
namespace Go.Proofs.YtejniiehfangkaaGreatDoor
/-- A string begins with its sign; what is none is just the bytes that stand there. -/
def FWh (l : List UInt8) : Fst → Prop
  | .ok k s m => (k = 4 ∧ l.head? = some 34) ∨ (k ≠ 4 ∧ s = l.take m ∧ s.length = m)
  | .no _ => True
theorem num_wh (l : List UInt8) : FWh l (numL l) := by
  have h := dgN_le l
  unfold numL
  split
  · trivial
  · exact .inr ⟨by decide, rfl, by rw [List.length_take, Nat.min_eq_left h]⟩
theorem raw_wh (l : List UInt8) (h : l.head? = some 34) : FWh l (rawL l) := by
  unfold rawL
  cases rawE 0 34 (l.drop 3) with
  | none => trivial
  | some j =>
    simp only
    split
    · trivial
    · exact .inl ⟨rfl, h⟩
theorem str_wh (l : List UInt8) (h : l.head? = some 34) : FWh l (strL l) := by
  unfold strL
  split
  · exact .inl ⟨rfl, h⟩
  · trivial
theorem nam_wh (l : List UInt8) : FWh l (namL l) := by
  unfold namL
  split
  · trivial
  · exact .inr ⟨by decide, rfl, by rw [List.length_take, Nat.min_eq_left (tk_le _ _)]⟩
theorem fst_wh (l : List UInt8) : FWh l (fstL l) := by
  unfold fstL
  cases l with
  | nil => trivial
  | cons c t =>
    simp only
    split
    · exact .inr ⟨by decide, by simp, rfl⟩
    split
    · split
      · rename_i h
        rw [List.isPrefixOf_iff_prefix] at h
        obtain ⟨r, hr⟩ := h
        exact .inr ⟨by decide, by rw [← hr]; rfl, rfl⟩
      · trivial
    split
    · exact num_wh _
    split
    · rename_i h
      have hc : (c :: t).head? = some 34 := by
        show some c = some 34
        rw [UInt8.toNat_inj.1 (show c.toNat = (34 : UInt8).toNat from h)]
      split
      · exact raw_wh _ hc
      · exact str_wh _ hc
    · exact nam_wh _
/-- Tokens stand at rising places, each as it is. -/
def plcs (L : List UInt8) : Nat → List Tkn → Prop
  | _, [] => True
  | fr, t :: ts => fr ≤ t.a ∧ t.a < L.length ∧ ((t.k = 4 ∧ (L.drop t.a).head? = some 34 ∧ plcs L (t.a + 1) ts) ∨ (t.k ≠ 4 ∧ 1 ≤ t.s.length ∧ t.a + t.s.length ≤ L.length ∧ t.s = (L.drop t.a).take t.s.length ∧ plcs L (t.a + t.s.length) ts))
theorem lexF_plcs (L : List UInt8) : ∀ (f e n : Nat) (nb : Bool) (ts : List Tkn) (fr : Nat), lexF f (L.drop e) e n nb = .inl ts → fr ≤ e → plcs L fr ts
  | 0, e, n, nb, ts, fr, h, _ => by simp [lexF] at h
  | f + 1, e, n, nb, ts, fr, h, hfr => by
    by_cases hb : betw false (L.drop e) < (L.drop e).length
    · by_cases hn : n = 900
      · rw [lexF_many hb hn] at h; cases h
      by_cases hp : betw false (L.drop e) = 0 ∧ nb = true ∧ hdP (L.drop e) = true
      · rw [lexF_part hb hn hp] at h; cases h
      cases hx : fstL ((L.drop e).drop (betw false (L.drop e))) with
      | no j => rw [lexF_no hb hn hp hx] at h; cases h
      | ok k s m =>
        have hst := fst_step hb hx
        have hwh := fst_wh ((L.drop e).drop (betw false (L.drop e)))
        rw [lexF_ok hb hn hp hx, List.drop_drop] at h
        rw [hx, List.drop_drop] at hwh
        generalize betw false (L.drop e) = b at *
        rw [List.length_drop] at hst hb
        cases hr : lexF f (L.drop (e + (b + m))) (e + b + m) (n + 1) (k == 3) with
        | inr q => rw [hr] at h; cases h
        | inl us =>
          rw [hr] at h
          have hts : ts = ⟨k, s, e + b⟩ :: us := by
            have := Sum.inl.inj h
            rw [← this]; rfl
          subst hts
          rw [← Nat.add_assoc] at hr
          refine ⟨by show fr ≤ e + b; omega, by show e + b < L.length; omega, ?_⟩
          rcases hwh with ⟨h4, hh⟩ | ⟨h4, hs, hl⟩
          · exact .inl ⟨h4, hh, lexF_plcs L f (e + b + m) (n + 1) (k == 3) us (e + b + 1) hr (by omega)⟩
          · refine .inr ⟨h4, by show 1 ≤ s.length; omega, by show e + b + s.length ≤ L.length; omega, by show s = (L.drop (e + b)).take s.length; rw [hl]; exact hs, ?_⟩
            exact lexF_plcs L f (e + b + m) (n + 1) (k == 3) us (e + b + s.length) hr (by omega)
    · rw [lexF_end (by omega)] at h
      cases h
      trivial
theorem plcs_len (L : List UInt8) : ∀ (ts : List Tkn) (fr : Nat), plcs L fr ts → fr ≤ L.length → fr + ts.length ≤ L.length
  | [], fr, _, h => by simpa using h
  | t :: us, fr, ⟨h1, h2, h3⟩, h => by
    have key : t.a + 1 + us.length ≤ L.length := by
      rcases h3 with ⟨_, _, hp⟩ | ⟨_, hn, hl, _, hp⟩
      · exact plcs_len L us (t.a + 1) hp (by omega)
      · have := plcs_len L us (t.a + t.s.length) hp hl
        omega
    simp only [List.length_cons]
    omega
theorem lexF_err : ∀ (f : Nat) (l : List UInt8) (e n : Nat) (nb : Bool) (q : Int × Nat), lexF f l e n nb = .inr q → q.1 ≠ 0 ∧ q.2 ≤ e + l.length
  | 0, l, e, n, nb, q, h => by
    simp only [lexF, Sum.inr.injEq] at h
    subst h
    exact ⟨by simp, by simp⟩
  | f + 1, l, e, n, nb, q, h => by
    by_cases hb : betw false l < l.length
    · by_cases hn : n = 900
      · rw [lexF_many hb hn] at h
        cases h
        exact ⟨by simp, by simp only; omega⟩
      by_cases hp : betw false l = 0 ∧ nb = true ∧ hdP l = true
      · rw [lexF_part hb hn hp] at h
        cases h
        exact ⟨by simp, by simp only; omega⟩
      cases hx : fstL (l.drop (betw false l)) with
      | no j =>
        rw [lexF_no hb hn hp hx] at h
        have hj := fst_in (l.drop (betw false l))
        rw [hx] at hj
        have hj2 : j ≤ (l.drop (betw false l)).length := hj
        rw [List.length_drop] at hj2
        cases h
        exact ⟨by simp, by simp only; omega⟩
      | ok k s m =>
        have hst := fst_step hb hx
        rw [lexF_ok hb hn hp hx] at h
        cases hr : lexF f (l.drop (betw false l + m)) (e + betw false l + m) (n + 1) (k == 3) with
        | inl us => rw [hr] at h; cases h
        | inr p =>
          rw [hr] at h
          have hp2 : p = q := Sum.inr.inj h
          subst hp2
          have := lexF_err f _ _ _ _ p hr
          rw [List.length_drop] at this
          exact ⟨this.1, by omega⟩
    · rw [lexF_end (by omega)] at h; cases h
theorem badI_le (s : ByteArray) : ∀ f i, badF s f i ≤ s.size ∧ (0 ≤ badF s f i → badF s f i ≤ s.size)
  | 0, i => by unfold badF; constructor <;> intros <;> omega
  | f + 1, i => by
    have h := badI_le s f (i + (Utf8.decode s i).2)
    unfold badF
    split
    · split
      · constructor <;> intros <;> omega
      · exact h
    · constructor <;> intros <;> omega
theorem lexB_err {s : ByteArray} {q : Int × Nat} (h : lexB s = .inr q) : q.1 ≠ 0 ∧ q.2 ≤ s.size := by
  unfold lexB at h
  split at h
  · cases h; exact ⟨by simp, by simp⟩
  split at h
  · cases h
    have := (badI_le s (s.size + 1) 0).1
    refine ⟨by simp, ?_⟩
    show (badI s).toNat ≤ s.size
    unfold badI
    omega
  · have := lexF_err _ _ _ _ _ _ h
    rw [← Lib.size_eq] at this
    exact ⟨this.1, by omega⟩
theorem lexB_ok {s : ByteArray} {ts : List Tkn} (h : lexB s = .inl ts) : s.size ≤ 4000 ∧ badI s < 0 ∧ lexL s.data.toList = .inl ts := by
  unfold lexB at h
  split at h
  · cases h
  split at h
  · cases h
  · exact ⟨by omega, by omega, h⟩
theorem lexB_plcs {s : ByteArray} {ts : List Tkn} (h : lexB s = .inl ts) : plcs s.data.toList 0 ts := by
  have h2 := (lexB_ok h).2.2
  unfold lexL at h2
  exact lexF_plcs s.data.toList (s.data.toList.length + 1) 0 0 false ts 0 (by rw [List.drop_zero]; exact h2) (Nat.le_refl _)
theorem lexB_len {s : ByteArray} {ts : List Tkn} (h : lexB s = .inl ts) : ts.length ≤ s.size := by
  have := plcs_len _ _ _ (lexB_plcs h) (Nat.zero_le _)
  rw [← Lib.size_eq] at this
  omega
end Go.Proofs.YtejniiehfangkaaGreatDoor

/- Many names, and one long remark; plain. -/
set_option linter.unusedVariables false
set_option linter.unusedSimpArgs false
namespace Go.Proofs.YtejniiehfangkaaGreatDoor
/-- Bytes below 80 are a text. -/
theorem badF_ascii (s : ByteArray) (h : ∀ j, j < s.size → (s.get! j).toNat < 128) : ∀ f i, badF s f i = -1
  | 0, _ => rfl
  | f + 1, i => by
    unfold badF
    by_cases hi : i < s.size
    · rw [if_pos hi, (size_one s i hi (h i hi)).2]
      simp only [Bool.false_eq_true, if_false]
      exact badF_ascii s h f _
    · rw [if_neg hi]
theorem bad_ascii (s : ByteArray) (h : ∀ c ∈ s.data.toList, c.toNat < 128) : badI s = -1 := by
  unfold badI
  refine badF_ascii s (fun j hj => ?_) _ _
  refine h _ (List.mem_iff_getElem.2 ⟨j, by rw [← Lib.size_eq]; exact hj, ?_⟩)
  exact get_bang_data s j hj
/-- So many names of one letter, a blank behind each. -/
def repA : Nat → List UInt8
  | 0 => []
  | k + 1 => 97 :: 32 :: repA k
theorem repA_len : ∀ k, (repA k).length = 2 * k
  | 0 => rfl
  | k + 1 => by simp only [repA, List.length_cons, repA_len k]; omega
theorem repA_snoc : ∀ k, repA k ++ [97, 32] = repA (k + 1)
  | 0 => rfl
  | k + 1 => by
    show 97 :: 32 :: (repA k ++ [97, 32]) = 97 :: 32 :: repA (k + 1)
    rw [repA_snoc k]
theorem repA_ascii : ∀ k, ∀ c ∈ repA k, c.toNat < 128
  | 0 => by simp [repA]
  | k + 1 => by
    intro c hc
    simp only [repA, List.mem_cons] at hc
    rcases hc with rfl | rfl | hc
    · decide
    · decide
    · exact repA_ascii k c hc
theorem betw_rep (j : Nat) : betw false (32 :: repA j) = 1 ∧ betw false (repA j) = 0 := by
  have h0 : betw false (repA j) = 0 := by
    cases j with
    | zero => rfl
    | succ j => exact bgB_betw 97 _ (by decide)
  refine ⟨?_, h0⟩
  show (if (32 : UInt8).toNat = 10 ∨ (32 : UInt8).toNat = 13 then _ else if (32 : UInt8).toNat = 35 then _ else if (32 : UInt8).toNat = 32 ∨ (32 : UInt8).toNat = 9 ∨ (32 : UInt8).toNat = 44 then betw false (repA j) + 1 else _) = 1
  rw [if_neg (by decide), if_neg (by decide), if_pos (by decide), h0]
theorem fst_rep (j : Nat) : fstL (97 :: 32 :: repA j) = .ok 2 [97] 1 := rfl
theorem rep_lex : ∀ (j f e n : Nat) (nb : Bool), 2 * j + 1 < f → n ≤ 900 →
    (n + j ≤ 900 → ∃ ts, lexF f (32 :: repA j) e n nb = .inl ts ∧ ts.length = j) ∧ (900 < n + j → lexF f (32 :: repA j) e n nb = .inr (6, e + 1 + 2 * (900 - n)))
  | 0, 0, e, n, nb, hf, _ => by omega
  | 0, f + 1, e, n, nb, hf, hn => by
    rw [lexF_end (by rw [(betw_rep 0).1]; simp [repA])]
    exact ⟨fun _ => ⟨[], rfl, rfl⟩, fun h => by omega⟩
  | j + 1, 0, e, n, nb, hf, _ => by omega
  | j + 1, f + 1, e, n, nb, hf, hn => by
    have hb := (betw_rep (j + 1)).1
    have hlt : betw false (32 :: repA (j + 1)) < (32 :: repA (j + 1)).length := by rw [hb]; simp [repA]
    by_cases h9 : n = 900
    · rw [lexF_many hlt h9, hb]
      refine ⟨fun h => by omega, fun _ => ?_⟩
      rw [h9]
    · have hp : ¬ (betw false (32 :: repA (j + 1)) = 0 ∧ nb = true ∧ hdP (32 :: repA (j + 1)) = true) := by rw [hb]; rintro ⟨h, _⟩; cases h
      have hx : fstL ((32 :: repA (j + 1)).drop (betw false (32 :: repA (j + 1)))) = .ok 2 [97] 1 := by rw [hb]; exact fst_rep j
      rw [lexF_ok hlt h9 hp hx, hb]
      have hd : (32 :: repA (j + 1)).drop (1 + 1) = 32 :: repA j := rfl
      rw [hd]
      obtain ⟨i1, i2⟩ := rep_lex j f (e + 1 + 1) (n + 1) (2 == 3) (by omega) (by omega)
      refine ⟨fun h => ?_, fun h => ?_⟩
      · obtain ⟨ts, h1, h2⟩ := i1 (by omega)
        rw [h1]
        exact ⟨⟨2, [97], e + 1⟩ :: ts, rfl, by simp [h2]⟩
      · rw [i2 (by omega)]
        show Sum.inr _ = Sum.inr _
        congr 2
        omega
theorem rep_size (k : Nat) : (⟨(repA k).toArray⟩ : ByteArray).size = 2 * k := by
  show (repA k).toArray.size = _
  rw [List.size_toArray, repA_len]
/-- What Lex answers of so many names. -/
theorem rep_all (k : Nat) (h1 : 1 ≤ k) (h2 : k ≤ 1000) : (k ≤ 900 → ∃ ts, lexB ⟨(repA k).toArray⟩ = .inl ts ∧ ts.length = k) ∧ (900 < k → lexB ⟨(repA k).toArray⟩ = .inr (6, 1800)) := by
  have hb : badI ⟨(repA k).toArray⟩ = -1 := bad_ascii _ (by simpa using repA_ascii k)
  have hB : lexB ⟨(repA k).toArray⟩ = lexL (repA k) := by
    unfold lexB
    rw [rep_size, if_neg (by omega), hb, if_neg (by decide)]
  rw [hB]
  obtain ⟨j, rfl⟩ : ∃ j, k = j + 1 := ⟨k - 1, by omega⟩
  have hb0 := (betw_rep (j + 1)).2
  have hx : fstL ((repA (j + 1)).drop (betw false (repA (j + 1)))) = .ok 2 [97] 1 := by rw [hb0]; exact fst_rep j
  unfold lexL
  rw [repA_len, lexF_ok (by rw [hb0, repA_len]; omega) (by decide) (by rintro ⟨_, h, _⟩; cases h) hx, hb0]
  have hd : (repA (j + 1)).drop (0 + 1) = 32 :: repA j := rfl
  rw [hd]
  obtain ⟨i1, i2⟩ := rep_lex j (2 * (j + 1)) (0 + 0 + 1) (0 + 1) (2 == 3) (by omega) (by decide)
  refine ⟨fun h => ?_, fun h => ?_⟩
  · obtain ⟨ts, h1, h2⟩ := i1 (by omega)
    rw [h1]
    exact ⟨⟨2, [97], 0 + 0⟩ :: ts, rfl, by simp [h2]⟩
  · rw [i2 (by omega)]
    rfl
theorem betw_x : ∀ n, betw true (List.replicate n (120 : UInt8)) = n
  | 0 => rfl
  | n + 1 => by
    show (if (120 : UInt8).toNat = 10 ∨ (120 : UInt8).toNat = 13 then _ else if (120 : UInt8).toNat = 35 then _ else if (120 : UInt8).toNat = 32 ∨ (120 : UInt8).toNat = 9 ∨ (120 : UInt8).toNat = 44 then _ else if true then betw true (List.replicate n 120) + 1 else 0) = n + 1
    rw [if_neg (by decide), if_neg (by decide), if_neg (by decide), betw_x n]
    rfl
/-- What Lex answers of one remark. -/
theorem rem_all (n : Nat) : lexB ⟨(35 :: List.replicate n (120 : UInt8)).toArray⟩ = if 4000 < n + 1 then .inr (6, 0) else .inl [] := by
  have hs : (⟨(35 :: List.replicate n (120 : UInt8)).toArray⟩ : ByteArray).size = n + 1 := by
    show (35 :: List.replicate n (120 : UInt8)).toArray.size = _
    rw [List.size_toArray, List.length_cons, List.length_replicate]
  have hb : badI ⟨(35 :: List.replicate n (120 : UInt8)).toArray⟩ = -1 := bad_ascii _ (by
    intro c hc
    simp only [List.mem_cons, List.mem_replicate] at hc
    rcases hc with rfl | ⟨_, rfl⟩ <;> decide)
  unfold lexB
  rw [hs, hb]
  by_cases h : 4000 < n + 1
  · rw [if_pos h, if_pos h]
  · rw [if_neg h, if_neg h, if_neg (by decide)]
    unfold lexL
    have hbt : betw false (35 :: List.replicate n (120 : UInt8)) = n + 1 := by
      show (if (35 : UInt8).toNat = 10 ∨ (35 : UInt8).toNat = 13 then _ else if (35 : UInt8).toNat = 35 then betw true (List.replicate n 120) + 1 else _) = n + 1
      rw [if_neg (by decide), if_pos (by decide), betw_x]
    exact lexF_end (by show (35 :: List.replicate n (120 : UInt8)).length ≤ _; rw [hbt, List.length_cons, List.length_replicate]; exact Nat.le_refl _)
end Go.Proofs.YtejniiehfangkaaGreatDoor

/- TokenMany (P8.1): just 900 tokens are cut, and 4000 bytes. The walk. -/
set_option linter.unusedVariables false
set_option linter.unusedSimpArgs false
namespace Go.Proofs.YtejniiehfangkaaGreatDoor.TokenMany
open Go.RowKit
def Row8 (w : World) (g n k : Nat) : Prop := ∃ cur : Array Value, w.heap[g]? = some (.cells cur 5 (0, 0)) ∧ cur.size = n ∧ ∀ j, j < k → cur[j]? = some (.int .u8 120)
theorem add_zero (g j : Nat) : (⟨g, 0, none⟩ : Addr).add j = ⟨g, j, none⟩ := by unfold Addr.add; split <;> simp_all
set_option maxHeartbeats 1000000 in
set_option maxRecDepth 100000 in
theorem zeros_any (n : Nat) (hn : n ≤ 100000) (w : World) : Calls Tryz.prog 17 #[.int .i64 (n : Nat)] w fun e w' => e = .returned (.slice (some ⟨w.heap.size, 0, none⟩) n n) ∧ Row8 w' w.heap.size n n ∧ Below w.heap.size w w' := by
  obtain ⟨i0, hi, hz0, hz1, hz2⟩ := info_parts Bk.info5
  obtain ⟨M, hM⟩ : ∃ M, M = madeCells (Value.int .u8 0).cells (((n : Nat) : Int).toNat * i0.size) := ⟨_, rfl⟩
  have hMs : M.size = n := by rw [hM, size_madeCells, hz1]; simp
  have hmk : ∀ W : World, (Instr.makeSlice 34 (.int .i64 (n : Int)) (.int .i64 (n : Int))).run Tryz.prog W = .ok (.slice (some ⟨W.heap.size, 0, none⟩) n n) (W.alloc (.cells M 5)) := fun W => by
    have h := run_make (P := Tryz.prog) W 34 5 i0 (.int .u8 0) Tryz.underlying34 hi hz0 .i64 .i64 (n : Int) (n : Int) (by omega) (by omega) (by rw [hz2]; omega) (by omega)
    rw [← hM] at h
    simpa using h
  have HB0 := Lib.hid ((Below.refl w.heap.size w).alloc (Nat.le_refl _) (.cells M 5))
  have HR0 : Hid (Row8 (w.alloc (.cells M 5)) w.heap.size n 0) := Lib.hid ⟨M, heap_alloc_new w _, hMs, fun j hj => by omega⟩
  clear hM hMs
  go_enter Tryz.func17, Tryz.ntmps17
  go_wp2_with fail
  generalize w.alloc (.cells M 5) = w0 at HB0 HR0 ⊢
  go_loopw [4] (fun v wr => ∃ k : Nat, v = .int .i64 (k : Nat) ∧ k ≤ n ∧ Row8 wr w.heap.size n k ∧ Below w.heap.size w wr) (fun v _ => n - (intOf v).toNat)
  case atStart => exact ⟨0, rfl, Nat.zero_le _, HR0.out, HB0.out⟩
  case round =>
    obtain ⟨k, rfl, hk, hr, hb⟩ := hrel
    have HR := Lib.hid hr
    have HB := Lib.hid hb
    clear hr hb
    by_cases hlt : k < n
    · obtain ⟨cur, hc, hcs, hall⟩ := HR.out
      obtain ⟨x, hx⟩ : ∃ x, cur[k]? = some x := ⟨cur[k]'(by omega), Array.getElem?_eq_getElem _⟩
      have c0 : wr.cell? ⟨w.heap.size, k, none⟩ = some x := by rw [cell_of_row wr w.heap.size k cur _ _ hc]; simpa using hx
      have f0 : wr.frozen? ⟨w.heap.size, k, none⟩ = false := by exact Lib.frozen_of_heap hc k
      have HN : Hid (Row8 (wr.setCell ⟨w.heap.size, k, none⟩ (.int .u8 120)) w.heap.size n (k + 1)) := Lib.hid (by
        refine ⟨_, Lib.heap_setCell_same hc _, by simpa using hcs, fun j hj => ?_⟩
        rw [Array.getElem?_setIfInBounds]
        split
        · rw [if_pos (by omega)]
        · exact hall j (by omega))
      have HB2 : Hid (Below w.heap.size w (wr.setCell ⟨w.heap.size, k, none⟩ (.int .u8 120))) := Lib.hid (by exact HB.out.setCell (Nat.le_refl _) _)
      clear hc hcs hall hx
      go_wp2_with fail
      exact ⟨⟨k + 1, by go_num, by omega, HN.out, HB2.out⟩, by simp [intOf]; omega⟩
    · obtain rfl : k = n := by omega
      go_wp2_with fail
      go_ret
      exact ⟨rfl, HR.out, HB.out⟩
def ends (W : World) (e : Ending) (W' : World) : Prop := e = .returned (.bool true) ∧ Below W.heap.size W W'
-- GEN
theorem conv_x (w : World) (g n : Nat) (h : Row8 w g n n) : (convert 34 9 (.slice (some ⟨g, 0, none⟩) n n)).run Tryz.prog w = .ok (.string ⟨(List.replicate n (120 : UInt8)).toArray⟩) w := by
  obtain ⟨cur, hc, hcs, hall⟩ := h
  have := run_convert_bytes_back (P := Tryz.prog) w 34 9 5 ⟨g, 0, none⟩ n (List.replicate n (120 : UInt8)) Tryz.underlying34 Tryz.underlying5 Tryz.underlying9 (fun j hj => by
    rw [List.length_replicate] at hj
    rw [add_zero, cell_of_row w g j cur _ _ hc, List.getElem_replicate]
    have := hall j hj
    simpa using this)
  rw [List.length_replicate] at this
  exact this
set_option maxHeartbeats 4000000 in
set_option maxRecDepth 100000 in
theorem walk_fs (W : World) (hL : LV W) (n m : Int) (hn0 : 0 ≤ n) (hn1 : n < 65536) (hm0 : 0 ≤ m) (hm1 : m < 256) (K N : Nat) (hK : 880 + n % 40 = (K : Int)) (hN : 3990 + m % 20 = (N : Int)) (hKm : K ≤ 900) (hNl : N + 1 ≤ 4000) : Calls Tryz.prog 7 #[.int .u16 n, .int .u8 m] W (ends W) := by
  have HL := Lib.hid hL
  have hKb : 880 ≤ K ∧ K ≤ 919 := by omega
  have hNb : 3990 ≤ N ∧ N ≤ 4009 := by omega
  obtain ⟨hKb0, hKb1⟩ := hKb
  obtain ⟨hNb0, hNb1⟩ := hNb
  have HK := Lib.hid hK
  have HN := Lib.hid hN
  have hR := rep_all K (by omega) (by omega)
  obtain ⟨ts, hA, hts⟩ := hR.1 hKm
  have KA : Hid (∀ w, LV w → Calls Tryz.prog 10 #[.string ⟨(repA K).toArray⟩] w (LxQ (.inl ts) w)) := Lib.hid (fun w hw => by rw [← hA]; exact lex_read _ (by rw [rep_size]; omega) w hw)
  have hZ : (⟨#[35]⟩ ++ ⟨Array.replicate N (120 : UInt8)⟩ : ByteArray) = ⟨(35 :: List.replicate N (120 : UInt8)).toArray⟩ := by
    refine ByteArray.ext (Array.toList_inj.1 ?_)
    rw [Joins.data_append]
    simp
  obtain ⟨Z, hZZ⟩ : ∃ Z, (⟨(35 :: List.replicate N (120 : UInt8)).toArray⟩ : ByteArray) = Z := ⟨_, rfl⟩
  have hZs : Z.size = N + 1 := by
    rw [← hZZ]
    show (35 :: List.replicate N (120 : UInt8)).toArray.size = _
    rw [List.size_toArray, List.length_cons, List.length_replicate]
  rw [hZZ] at hZ
  have hB : lexB Z = .inl [] := by rw [← hZZ, rem_all, if_neg (by omega)]
  have KB : Hid (∀ w, LV w → Calls Tryz.prog 10 #[.string Z] w (LxQ (.inl []) w)) := Lib.hid (fun w hw => by rw [← hB]; exact lex_read _ (by omega) w hw)
  have HZ := Lib.hid hZ
  have dK : decide ((K : Int) ≤ 900) = true := decide_eq_true (by omega)
  have dK2 : decide ((900 : Int) < (K : Int)) = false := decide_eq_false (by omega)
  have dZ : decide ((4000 : Int) < (Z.size : Int)) = false := decide_eq_false (by omega)
  have dZ2 : decide ((Z.size : Int) ≤ 4000) = true := decide_eq_true (by omega)
  clear hL hR hA hB hZ hZZ hK hN hZs
  go_enter Tryz.func7, Tryz.ntmps7
  go_wp2_with fail
  refine (awake_any _ HL.out).mono ?_
  rintro e w1 ⟨rfl, hb1⟩
  have HB1 := Lib.hid hb1
  have HL1 := Lib.hid (HL.out.go hb1)
  clear hb1
  go_wp2_with fail
  rw [HK.out]
  go_loopw [6, 7] (fun v6 v7 wr => ∃ (i : Nat) (S : ByteArray), v6 = .string S ∧ v7 = .int .i64 (i : Nat) ∧ i ≤ K ∧ S = ⟨(repA i).toArray⟩ ∧ S.size = 2 * i ∧ w1 = wr) (fun _ v7 _ => K - (intOf v7).toNat)
  case atStart => exact ⟨0, ⟨#[]⟩, rfl, rfl, Nat.zero_le _, rfl, rfl, rfl⟩
  case round =>
    obtain ⟨i, S, rfl, rfl, hi, hS, hSs, rfl⟩ := hrel
    have HS := Lib.hid hS
    clear hS
    by_cases hlt : i < K
    · have hNS : S ++ ⟨#[97, 32]⟩ = ⟨(repA (i + 1)).toArray⟩ := by
        rw [HS.out]
        refine ByteArray.ext (Array.toList_inj.1 ?_)
        rw [Joins.data_append, ← repA_snoc i]
      have HNS := Lib.hid hNS
      have hz : (S ++ ⟨#[97, 32]⟩ : ByteArray).size = 2 * (i + 1) := by rw [hNS, rep_size]
      have HZ2 := Lib.hid hz
      clear hNS hz
      go_wp2_with fail
      exact ⟨⟨i + 1, _, rfl, by go_num, by omega, HNS.out, HZ2.out, by first | rfl | trivial⟩, by simp [intOf]; omega⟩
    · obtain rfl : i = K := by omega
      have hS2 := HS.out
      subst hS2
      clear hSs HS
      go_wp2_with fail
      refine (KA.out w1 HL1.out).mono ?_
      rintro e w2 ⟨hb2, a, c, rfl, -⟩
      have HB2 := Lib.hid (HB1.out.trans (hb2.mono HB1.out.size))
      clear hb2
      rw [hts]
      go_wp2_with fail
      have HB3 := Lib.hid (HB2.out.alloc HB2.out.size (.cells #[.int .i64 0, .int .i64 0] 26))
      generalize w2.alloc (.cells #[.int .i64 0, .int .i64 0] 26) = w3 at HB3 ⊢
      rw [HN.out]
      refine (zeros_any N (by omega) w3).mono ?_
      rintro e w4 ⟨rfl, hr4, hb4⟩
      have HB4 := Lib.hid (HB3.out.trans (hb4.mono HB3.out.size))
      have HL4 := Lib.hid (HL.out.go HB4.out)
      have hcv := conv_x w4 w3.heap.size N hr4
      clear hb4 hr4
      go_wp2_with fail
      rw [HZ.out]
      refine (KB.out w4 HL4.out).mono ?_
      rintro e w5 ⟨hb5, a5, c5, rfl, -⟩
      have HB5 := Lib.hid (HB4.out.trans (hb5.mono HB4.out.size))
      clear hb5
      go_wp2_with fail
      go_ret
      exact ⟨rfl, HB5.out.alloc HB5.out.size _⟩
set_option maxHeartbeats 4000000 in
set_option maxRecDepth 100000 in
theorem walk_fl (W : World) (hL : LV W) (n m : Int) (hn0 : 0 ≤ n) (hn1 : n < 65536) (hm0 : 0 ≤ m) (hm1 : m < 256) (K N : Nat) (hK : 880 + n % 40 = (K : Int)) (hN : 3990 + m % 20 = (N : Int)) (hKm : K ≤ 900) (hNl : 4000 < N + 1) : Calls Tryz.prog 7 #[.int .u16 n, .int .u8 m] W (ends W) := by
  have HL := Lib.hid hL
  have hKb : 880 ≤ K ∧ K ≤ 919 := by omega
  have hNb : 3990 ≤ N ∧ N ≤ 4009 := by omega
  obtain ⟨hKb0, hKb1⟩ := hKb
  obtain ⟨hNb0, hNb1⟩ := hNb
  have HK := Lib.hid hK
  have HN := Lib.hid hN
  have hR := rep_all K (by omega) (by omega)
  obtain ⟨ts, hA, hts⟩ := hR.1 hKm
  have KA : Hid (∀ w, LV w → Calls Tryz.prog 10 #[.string ⟨(repA K).toArray⟩] w (LxQ (.inl ts) w)) := Lib.hid (fun w hw => by rw [← hA]; exact lex_read _ (by rw [rep_size]; omega) w hw)
  have hZ : (⟨#[35]⟩ ++ ⟨Array.replicate N (120 : UInt8)⟩ : ByteArray) = ⟨(35 :: List.replicate N (120 : UInt8)).toArray⟩ := by
    refine ByteArray.ext (Array.toList_inj.1 ?_)
    rw [Joins.data_append]
    simp
  obtain ⟨Z, hZZ⟩ : ∃ Z, (⟨(35 :: List.replicate N (120 : UInt8)).toArray⟩ : ByteArray) = Z := ⟨_, rfl⟩
  have hZs : Z.size = N + 1 := by
    rw [← hZZ]
    show (35 :: List.replicate N (120 : UInt8)).toArray.size = _
    rw [List.size_toArray, List.length_cons, List.length_replicate]
  rw [hZZ] at hZ
  have hB : lexB Z = .inr (6, 0) := by rw [← hZZ, rem_all, if_pos hNl]
  have KB : Hid (∀ w, LV w → Calls Tryz.prog 10 #[.string Z] w (LxQ (.inr (6, 0)) w)) := Lib.hid (fun w hw => by rw [← hB]; exact lex_read _ (by omega) w hw)
  have HZ := Lib.hid hZ
  have dK : decide ((K : Int) ≤ 900) = true := decide_eq_true (by omega)
  have dK2 : decide ((900 : Int) < (K : Int)) = false := decide_eq_false (by omega)
  have dZ : decide ((4000 : Int) < (Z.size : Int)) = true := decide_eq_true (by omega)
  have dZ2 : decide ((Z.size : Int) ≤ 4000) = false := decide_eq_false (by omega)
  clear hL hR hA hB hZ hZZ hK hN hZs
  go_enter Tryz.func7, Tryz.ntmps7
  go_wp2_with fail
  refine (awake_any _ HL.out).mono ?_
  rintro e w1 ⟨rfl, hb1⟩
  have HB1 := Lib.hid hb1
  have HL1 := Lib.hid (HL.out.go hb1)
  clear hb1
  go_wp2_with fail
  rw [HK.out]
  go_loopw [6, 7] (fun v6 v7 wr => ∃ (i : Nat) (S : ByteArray), v6 = .string S ∧ v7 = .int .i64 (i : Nat) ∧ i ≤ K ∧ S = ⟨(repA i).toArray⟩ ∧ S.size = 2 * i ∧ w1 = wr) (fun _ v7 _ => K - (intOf v7).toNat)
  case atStart => exact ⟨0, ⟨#[]⟩, rfl, rfl, Nat.zero_le _, rfl, rfl, rfl⟩
  case round =>
    obtain ⟨i, S, rfl, rfl, hi, hS, hSs, rfl⟩ := hrel
    have HS := Lib.hid hS
    clear hS
    by_cases hlt : i < K
    · have hNS : S ++ ⟨#[97, 32]⟩ = ⟨(repA (i + 1)).toArray⟩ := by
        rw [HS.out]
        refine ByteArray.ext (Array.toList_inj.1 ?_)
        rw [Joins.data_append, ← repA_snoc i]
      have HNS := Lib.hid hNS
      have hz : (S ++ ⟨#[97, 32]⟩ : ByteArray).size = 2 * (i + 1) := by rw [hNS, rep_size]
      have HZ2 := Lib.hid hz
      clear hNS hz
      go_wp2_with fail
      exact ⟨⟨i + 1, _, rfl, by go_num, by omega, HNS.out, HZ2.out, by first | rfl | trivial⟩, by simp [intOf]; omega⟩
    · obtain rfl : i = K := by omega
      have hS2 := HS.out
      subst hS2
      clear hSs HS
      go_wp2_with fail
      refine (KA.out w1 HL1.out).mono ?_
      rintro e w2 ⟨hb2, a, c, rfl, -⟩
      have HB2 := Lib.hid (HB1.out.trans (hb2.mono HB1.out.size))
      clear hb2
      rw [hts]
      go_wp2_with fail
      have HB3 := Lib.hid (HB2.out.alloc HB2.out.size (.cells #[.int .i64 0, .int .i64 0] 26))
      generalize w2.alloc (.cells #[.int .i64 0, .int .i64 0] 26) = w3 at HB3 ⊢
      rw [HN.out]
      refine (zeros_any N (by omega) w3).mono ?_
      rintro e w4 ⟨rfl, hr4, hb4⟩
      have HB4 := Lib.hid (HB3.out.trans (hb4.mono HB3.out.size))
      have HL4 := Lib.hid (HL.out.go HB4.out)
      have hcv := conv_x w4 w3.heap.size N hr4
      clear hb4 hr4
      go_wp2_with fail
      rw [HZ.out]
      refine (KB.out w4 HL4.out).mono ?_
      rintro e w5 ⟨hb5, rfl⟩
      have HB5 := Lib.hid (HB4.out.trans (hb5.mono HB4.out.size))
      clear hb5
      go_wp2_with fail
      go_ret
      exact ⟨rfl, HB5.out.alloc HB5.out.size _⟩
set_option maxHeartbeats 4000000 in
set_option maxRecDepth 100000 in
theorem walk_ms (W : World) (hL : LV W) (n m : Int) (hn0 : 0 ≤ n) (hn1 : n < 65536) (hm0 : 0 ≤ m) (hm1 : m < 256) (K N : Nat) (hK : 880 + n % 40 = (K : Int)) (hN : 3990 + m % 20 = (N : Int)) (hKm : 900 < K) (hNl : N + 1 ≤ 4000) : Calls Tryz.prog 7 #[.int .u16 n, .int .u8 m] W (ends W) := by
  have HL := Lib.hid hL
  have hKb : 880 ≤ K ∧ K ≤ 919 := by omega
  have hNb : 3990 ≤ N ∧ N ≤ 4009 := by omega
  obtain ⟨hKb0, hKb1⟩ := hKb
  obtain ⟨hNb0, hNb1⟩ := hNb
  have HK := Lib.hid hK
  have HN := Lib.hid hN
  have hR := rep_all K (by omega) (by omega)
  have hA := hR.2 hKm
  have KA : Hid (∀ w, LV w → Calls Tryz.prog 10 #[.string ⟨(repA K).toArray⟩] w (LxQ (.inr (6, 1800)) w)) := Lib.hid (fun w hw => by rw [← hA]; exact lex_read _ (by rw [rep_size]; omega) w hw)
  have hZ : (⟨#[35]⟩ ++ ⟨Array.replicate N (120 : UInt8)⟩ : ByteArray) = ⟨(35 :: List.replicate N (120 : UInt8)).toArray⟩ := by
    refine ByteArray.ext (Array.toList_inj.1 ?_)
    rw [Joins.data_append]
    simp
  obtain ⟨Z, hZZ⟩ : ∃ Z, (⟨(35 :: List.replicate N (120 : UInt8)).toArray⟩ : ByteArray) = Z := ⟨_, rfl⟩
  have hZs : Z.size = N + 1 := by
    rw [← hZZ]
    show (35 :: List.replicate N (120 : UInt8)).toArray.size = _
    rw [List.size_toArray, List.length_cons, List.length_replicate]
  rw [hZZ] at hZ
  have hB : lexB Z = .inl [] := by rw [← hZZ, rem_all, if_neg (by omega)]
  have KB : Hid (∀ w, LV w → Calls Tryz.prog 10 #[.string Z] w (LxQ (.inl []) w)) := Lib.hid (fun w hw => by rw [← hB]; exact lex_read _ (by omega) w hw)
  have HZ := Lib.hid hZ
  have dK : decide ((K : Int) ≤ 900) = false := decide_eq_false (by omega)
  have dK2 : decide ((900 : Int) < (K : Int)) = true := decide_eq_true (by omega)
  have dZ : decide ((4000 : Int) < (Z.size : Int)) = false := decide_eq_false (by omega)
  have dZ2 : decide ((Z.size : Int) ≤ 4000) = true := decide_eq_true (by omega)
  clear hL hR hA hB hZ hZZ hK hN hZs
  go_enter Tryz.func7, Tryz.ntmps7
  go_wp2_with fail
  refine (awake_any _ HL.out).mono ?_
  rintro e w1 ⟨rfl, hb1⟩
  have HB1 := Lib.hid hb1
  have HL1 := Lib.hid (HL.out.go hb1)
  clear hb1
  go_wp2_with fail
  rw [HK.out]
  go_loopw [6, 7] (fun v6 v7 wr => ∃ (i : Nat) (S : ByteArray), v6 = .string S ∧ v7 = .int .i64 (i : Nat) ∧ i ≤ K ∧ S = ⟨(repA i).toArray⟩ ∧ S.size = 2 * i ∧ w1 = wr) (fun _ v7 _ => K - (intOf v7).toNat)
  case atStart => exact ⟨0, ⟨#[]⟩, rfl, rfl, Nat.zero_le _, rfl, rfl, rfl⟩
  case round =>
    obtain ⟨i, S, rfl, rfl, hi, hS, hSs, rfl⟩ := hrel
    have HS := Lib.hid hS
    clear hS
    by_cases hlt : i < K
    · have hNS : S ++ ⟨#[97, 32]⟩ = ⟨(repA (i + 1)).toArray⟩ := by
        rw [HS.out]
        refine ByteArray.ext (Array.toList_inj.1 ?_)
        rw [Joins.data_append, ← repA_snoc i]
      have HNS := Lib.hid hNS
      have hz : (S ++ ⟨#[97, 32]⟩ : ByteArray).size = 2 * (i + 1) := by rw [hNS, rep_size]
      have HZ2 := Lib.hid hz
      clear hNS hz
      go_wp2_with fail
      exact ⟨⟨i + 1, _, rfl, by go_num, by omega, HNS.out, HZ2.out, by first | rfl | trivial⟩, by simp [intOf]; omega⟩
    · obtain rfl : i = K := by omega
      have hS2 := HS.out
      subst hS2
      clear hSs HS
      go_wp2_with fail
      refine (KA.out w1 HL1.out).mono ?_
      rintro e w2 ⟨hb2, rfl⟩
      have HB2 := Lib.hid (HB1.out.trans (hb2.mono HB1.out.size))
      clear hb2
      go_wp2_with fail
      have HB3 := Lib.hid (HB2.out.alloc HB2.out.size (.cells #[.int .i64 6, .int .i64 1800] 26))
      generalize w2.alloc (.cells #[.int .i64 6, .int .i64 1800] 26) = w3 at HB3 ⊢
      rw [HN.out]
      refine (zeros_any N (by omega) w3).mono ?_
      rintro e w4 ⟨rfl, hr4, hb4⟩
      have HB4 := Lib.hid (HB3.out.trans (hb4.mono HB3.out.size))
      have HL4 := Lib.hid (HL.out.go HB4.out)
      have hcv := conv_x w4 w3.heap.size N hr4
      clear hb4 hr4
      go_wp2_with fail
      rw [HZ.out]
      refine (KB.out w4 HL4.out).mono ?_
      rintro e w5 ⟨hb5, a5, c5, rfl, -⟩
      have HB5 := Lib.hid (HB4.out.trans (hb5.mono HB4.out.size))
      clear hb5
      go_wp2_with fail
      go_ret
      exact ⟨rfl, HB5.out.alloc HB5.out.size _⟩
set_option maxHeartbeats 4000000 in
set_option maxRecDepth 100000 in
theorem walk_ml (W : World) (hL : LV W) (n m : Int) (hn0 : 0 ≤ n) (hn1 : n < 65536) (hm0 : 0 ≤ m) (hm1 : m < 256) (K N : Nat) (hK : 880 + n % 40 = (K : Int)) (hN : 3990 + m % 20 = (N : Int)) (hKm : 900 < K) (hNl : 4000 < N + 1) : Calls Tryz.prog 7 #[.int .u16 n, .int .u8 m] W (ends W) := by
  have HL := Lib.hid hL
  have hKb : 880 ≤ K ∧ K ≤ 919 := by omega
  have hNb : 3990 ≤ N ∧ N ≤ 4009 := by omega
  obtain ⟨hKb0, hKb1⟩ := hKb
  obtain ⟨hNb0, hNb1⟩ := hNb
  have HK := Lib.hid hK
  have HN := Lib.hid hN
  have hR := rep_all K (by omega) (by omega)
  have hA := hR.2 hKm
  have KA : Hid (∀ w, LV w → Calls Tryz.prog 10 #[.string ⟨(repA K).toArray⟩] w (LxQ (.inr (6, 1800)) w)) := Lib.hid (fun w hw => by rw [← hA]; exact lex_read _ (by rw [rep_size]; omega) w hw)
  have hZ : (⟨#[35]⟩ ++ ⟨Array.replicate N (120 : UInt8)⟩ : ByteArray) = ⟨(35 :: List.replicate N (120 : UInt8)).toArray⟩ := by
    refine ByteArray.ext (Array.toList_inj.1 ?_)
    rw [Joins.data_append]
    simp
  obtain ⟨Z, hZZ⟩ : ∃ Z, (⟨(35 :: List.replicate N (120 : UInt8)).toArray⟩ : ByteArray) = Z := ⟨_, rfl⟩
  have hZs : Z.size = N + 1 := by
    rw [← hZZ]
    show (35 :: List.replicate N (120 : UInt8)).toArray.size = _
    rw [List.size_toArray, List.length_cons, List.length_replicate]
  rw [hZZ] at hZ
  have hB : lexB Z = .inr (6, 0) := by rw [← hZZ, rem_all, if_pos hNl]
  have KB : Hid (∀ w, LV w → Calls Tryz.prog 10 #[.string Z] w (LxQ (.inr (6, 0)) w)) := Lib.hid (fun w hw => by rw [← hB]; exact lex_read _ (by omega) w hw)
  have HZ := Lib.hid hZ
  have dK : decide ((K : Int) ≤ 900) = false := decide_eq_false (by omega)
  have dK2 : decide ((900 : Int) < (K : Int)) = true := decide_eq_true (by omega)
  have dZ : decide ((4000 : Int) < (Z.size : Int)) = true := decide_eq_true (by omega)
  have dZ2 : decide ((Z.size : Int) ≤ 4000) = false := decide_eq_false (by omega)
  clear hL hR hA hB hZ hZZ hK hN hZs
  go_enter Tryz.func7, Tryz.ntmps7
  go_wp2_with fail
  refine (awake_any _ HL.out).mono ?_
  rintro e w1 ⟨rfl, hb1⟩
  have HB1 := Lib.hid hb1
  have HL1 := Lib.hid (HL.out.go hb1)
  clear hb1
  go_wp2_with fail
  rw [HK.out]
  go_loopw [6, 7] (fun v6 v7 wr => ∃ (i : Nat) (S : ByteArray), v6 = .string S ∧ v7 = .int .i64 (i : Nat) ∧ i ≤ K ∧ S = ⟨(repA i).toArray⟩ ∧ S.size = 2 * i ∧ w1 = wr) (fun _ v7 _ => K - (intOf v7).toNat)
  case atStart => exact ⟨0, ⟨#[]⟩, rfl, rfl, Nat.zero_le _, rfl, rfl, rfl⟩
  case round =>
    obtain ⟨i, S, rfl, rfl, hi, hS, hSs, rfl⟩ := hrel
    have HS := Lib.hid hS
    clear hS
    by_cases hlt : i < K
    · have hNS : S ++ ⟨#[97, 32]⟩ = ⟨(repA (i + 1)).toArray⟩ := by
        rw [HS.out]
        refine ByteArray.ext (Array.toList_inj.1 ?_)
        rw [Joins.data_append, ← repA_snoc i]
      have HNS := Lib.hid hNS
      have hz : (S ++ ⟨#[97, 32]⟩ : ByteArray).size = 2 * (i + 1) := by rw [hNS, rep_size]
      have HZ2 := Lib.hid hz
      clear hNS hz
      go_wp2_with fail
      exact ⟨⟨i + 1, _, rfl, by go_num, by omega, HNS.out, HZ2.out, by first | rfl | trivial⟩, by simp [intOf]; omega⟩
    · obtain rfl : i = K := by omega
      have hS2 := HS.out
      subst hS2
      clear hSs HS
      go_wp2_with fail
      refine (KA.out w1 HL1.out).mono ?_
      rintro e w2 ⟨hb2, rfl⟩
      have HB2 := Lib.hid (HB1.out.trans (hb2.mono HB1.out.size))
      clear hb2
      go_wp2_with fail
      have HB3 := Lib.hid (HB2.out.alloc HB2.out.size (.cells #[.int .i64 6, .int .i64 1800] 26))
      generalize w2.alloc (.cells #[.int .i64 6, .int .i64 1800] 26) = w3 at HB3 ⊢
      rw [HN.out]
      refine (zeros_any N (by omega) w3).mono ?_
      rintro e w4 ⟨rfl, hr4, hb4⟩
      have HB4 := Lib.hid (HB3.out.trans (hb4.mono HB3.out.size))
      have HL4 := Lib.hid (HL.out.go HB4.out)
      have hcv := conv_x w4 w3.heap.size N hr4
      clear hb4 hr4
      go_wp2_with fail
      rw [HZ.out]
      refine (KB.out w4 HL4.out).mono ?_
      rintro e w5 ⟨hb5, rfl⟩
      have HB5 := Lib.hid (HB4.out.trans (hb5.mono HB4.out.size))
      clear hb5
      go_wp2_with fail
      go_ret
      exact ⟨rfl, HB5.out.alloc HB5.out.size _⟩
theorem walk (W : World) (hL : LV W) (n : Int) (hn0 : (Lit.int .u16 n).wf = true) (m : Int) (hm0 : (Lit.int .u8 m).wf = true) : Calls Tryz.prog 7 #[.int .u16 n, .int .u8 m] W fun e W' => e = .returned (.bool true) ∧ Below W.heap.size W W' := by
  show Calls _ _ _ _ (ends W)
  have hn : 0 ≤ n ∧ n < 65536 := by
    simp only [Lit.wf, Bool.and_eq_true, decide_eq_true_eq] at hn0
    exact ⟨hn0.1, Int.lt_of_le_of_lt hn0.2 (by decide)⟩
  have hm : 0 ≤ m ∧ m < 256 := by
    simp only [Lit.wf, Bool.and_eq_true, decide_eq_true_eq] at hm0
    exact ⟨hm0.1, Int.lt_of_le_of_lt hm0.2 (by decide)⟩
  obtain ⟨K, hK⟩ : ∃ K : Nat, 880 + n % 40 = (K : Int) := ⟨(880 + n % 40).toNat, by omega⟩
  obtain ⟨N, hN⟩ : ∃ N : Nat, 3990 + m % 20 = (N : Int) := ⟨(3990 + m % 20).toNat, by omega⟩
  by_cases h1 : K ≤ 900
  · by_cases h2 : N + 1 ≤ 4000
    · exact walk_fs W hL n m hn.1 hn.2 hm.1 hm.2 K N hK hN h1 h2
    · exact walk_fl W hL n m hn.1 hn.2 hm.1 hm.2 K N hK hN h1 (by omega)
  · by_cases h2 : N + 1 ≤ 4000
    · exact walk_ms W hL n m hn.1 hn.2 hm.1 hm.2 K N hK hN (by omega) h2
    · exact walk_ml W hL n m hn.1 hn.2 hm.1 hm.2 K N hK hN (by omega) (by omega)
end Go.Proofs.YtejniiehfangkaaGreatDoor.TokenMany
