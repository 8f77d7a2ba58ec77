/- Two right values of one JSON are one; on bytes, no program in it. -/
import Derived.Test.YtbinmhcjadkmgaaDoorJPlain
import Derived.Test.YtbinmhcjadkmgaaDoorQMath
set_option linter.unusedVariables false
set_option linter.unusedSimpArgs false
namespace Go.Proofs.YtbinmhcjadkmgaaDoor
open Go.RowKit
/-! ### decimal digits -/
def isDg (c : UInt8) : Bool := decide (48 ≤ c.toNat ∧ c.toNat ≤ 57)
theorem isDg_of (n : Nat) (h : n < 10) : isDg (UInt8.ofNat (48 + n)) = true := by
  unfold isDg; rw [u8 _ (by omega)]; simp; omega
theorem dec_isDg : ∀ (u : Nat), ∀ c ∈ Lib.decDigits u, isDg c = true := by
  intro u
  induction u using Nat.strongRecOn with
  | _ u ih =>
    intro c hc
    by_cases h : u < 10
    · rw [Lib.decDigits_one h] at hc
      rw [List.mem_singleton.1 hc]
      exact isDg_of u h
    · rw [Lib.decDigits, dif_neg h] at hc
      rcases List.mem_append.1 hc with hc | hc
      · exact ih (u / 10) (by omega) c hc
      · rw [List.mem_singleton.1 hc]
        exact isDg_of _ (by omega)
def dv (l : List UInt8) : Nat := l.foldl (fun a c => a * 10 + (c.toNat - 48)) 0
theorem dv_snoc (l : List UInt8) (c : UInt8) : dv (l ++ [c]) = dv l * 10 + (c.toNat - 48) := by simp [dv]
theorem dv_dec : ∀ (u : Nat), dv (Lib.decDigits u) = u := by
  intro u
  induction u using Nat.strongRecOn with
  | _ u ih =>
    by_cases h : u < 10
    · rw [Lib.decDigits_one h]
      show 0 * 10 + ((UInt8.ofNat (48 + u)).toNat - 48) = u
      rw [u8 _ (by omega)]; omega
    · rw [Lib.decDigits, dif_neg h, dv_snoc, ih (u / 10) (by omega), u8 _ (by omega)]; omega
theorem dec_cons (u : Nat) : ∃ c t, Lib.decDigits u = c :: t ∧ isDg c = true := by
  cases h : Lib.decDigits u with
  | nil =>
    rw [Lib.decDigits] at h
    split at h
    · simp at h
    · simp at h
  | cons c t => exact ⟨c, t, rfl, dec_isDg u c (by rw [h]; simp)⟩
/-- What stands behind a value begins with no digit. -/
def Dl (r : List UInt8) : Prop := ∀ c, r.head? = some c → isDg c = false
theorem take_dig (l r : List UInt8) (hl : ∀ c ∈ l, isDg c = true) (hr : Dl r) : (l ++ r).takeWhile isDg = l := by
  rw [List.takeWhile_append_of_pos (fun c hc => hl c hc)]
  cases r with
  | nil => simp
  | cons c t => rw [List.takeWhile_cons_of_neg (by rw [hr c rfl]; decide)]; simp
theorem dec_split {u v : Nat} {r r' : List UInt8} (hr : Dl r) (hr' : Dl r') (h : Lib.decDigits u ++ r = Lib.decDigits v ++ r') : u = v ∧ r = r' := by
  have e := congrArg (List.takeWhile isDg) h
  rw [take_dig _ _ (dec_isDg u) hr, take_dig _ _ (dec_isDg v) hr'] at e
  have e2 := congrArg dv e
  rw [dv_dec, dv_dec] at e2
  subst e2
  exact ⟨rfl, List.append_cancel_left h⟩
theorem itoa_split {n m : Int} {r r' : List UInt8} (hr : Dl r) (hr' : Dl r') (h : Lib.itoa n ++ r = Lib.itoa m ++ r') : n = m ∧ r = r' := by
  have d45 : isDg 45 = false := by decide
  unfold Lib.itoa at h
  by_cases hn : n < 0
  · by_cases hm : m < 0
    · rw [if_pos hn, if_pos hm] at h
      simp only [List.cons_append, List.cons.injEq, true_and] at h
      obtain ⟨e, e'⟩ := dec_split hr hr' h
      exact ⟨by omega, e'⟩
    · rw [if_pos hn, if_neg hm] at h
      obtain ⟨c, t, e, hc⟩ := dec_cons m.toNat
      rw [e] at h
      simp only [List.cons_append, List.cons.injEq] at h
      rw [← h.1, d45] at hc
      cases hc
  · by_cases hm : m < 0
    · rw [if_neg hn, if_pos hm] at h
      obtain ⟨c, t, e, hc⟩ := dec_cons n.toNat
      rw [e] at h
      simp only [List.cons_append, List.cons.injEq] at h
      rw [h.1, d45] at hc
      cases hc
    · rw [if_neg hn, if_neg hm] at h
      obtain ⟨e, e'⟩ := dec_split hr hr' h
      exact ⟨by omega, e'⟩
/-! ### texts -/
theorem str_split {s t : ByteArray} {r r' : List UInt8} (hs : rightB s = true) (ht : rightB t = true) (h : qL s.data.toList ++ r = qL t.data.toList ++ r') : s = t ∧ r = r' := by
  have a := unq_quote s ⟨(qL s.data.toList ++ r).toArray⟩ r hs (by simp)
  have b := unq_quote t ⟨(qL s.data.toList ++ r).toArray⟩ r' ht (by simp [h])
  rw [a] at b
  have e := congrArg Prod.fst b
  simp only at e
  obtain rfl : s = t := ByteArray.ext (Array.toList_inj.1 e)
  exact ⟨rfl, List.append_cancel_left h⟩
/-! ### values -/
mutual
/-- As many keys as values. -/
def Va.W : Va → Prop
  | .mk _ _ _ l ks f => ks.length = f.length ∧ WL l ∧ WL f
def WL : List Va → Prop
  | [] => True
  | x :: r => x.W ∧ WL r
end
theorem WL_of : ∀ {l : List Va}, (∀ x ∈ l, x.W) → WL l
  | [], _ => trivial
  | x :: r, h => ⟨h x (by simp), WL_of (fun y hy => h y (by simp [hy]))⟩
theorem lies_W : ∀ (a : Va) (S : Nat → Prop) (h : Hd) (w : World), Lies w S a h → a.W := by
  intro a
  induction a using Va.ind with
  | h k n s l ks f ihl ihf =>
    intro S h w H
    simp only [Lies] at H
    obtain ⟨⟨-, -, -, -, -, e6⟩, -, ⟨us, -, hl⟩, ⟨vs, -, hf⟩⟩ := H
    simp only [Va.W]
    refine ⟨e6, WL_of fun x hx => ?_, WL_of fun x hx => ?_⟩
    · obtain ⟨i, hi⟩ := List.mem_iff_getElem?.1 hx
      obtain ⟨u, -, hu⟩ := LiesL_at hl hi
      exact ihl x hx S u w hu
    · obtain ⟨i, hi⟩ := List.mem_iff_getElem?.1 hx
      obtain ⟨u, -, hu⟩ := LiesL_at hf hi
      exact ihf x hx S u w hu
/-- What a first byte tells of the kind. -/
def kb (c : UInt8) : Int := if c = 110 then 0 else if c = 116 ∨ c = 102 then 1 else if c = 34 then 3 else if c = 91 then 4 else if c = 123 then 5 else if c = 45 ∨ isDg c = true then 2 else 9
theorem kb_dig {c : UInt8} (h : isDg c = true) : kb c = 2 := by
  have h' : 48 ≤ c.toNat ∧ c.toNat ≤ 57 := by simpa [isDg] using h
  have ne : ∀ d : UInt8, ¬ (48 ≤ d.toNat ∧ d.toNat ≤ 57) → c ≠ d := fun d hd e => hd (e ▸ h')
  unfold kb
  rw [if_neg (ne _ (by decide)), if_neg (by rintro (e | e) <;> exact ne _ (by decide) e), if_neg (ne _ (by decide)), if_neg (ne _ (by decide)), if_neg (ne _ (by decide)), if_pos (Or.inr h)]
theorem kb_itoa (n : Int) : ∃ c t, Lib.itoa n = c :: t ∧ kb c = 2 := by
  unfold Lib.itoa
  by_cases hn : n < 0
  · rw [if_pos hn]; exact ⟨45, _, rfl, by decide⟩
  · rw [if_neg hn]
    obtain ⟨c, t, e, hc⟩ := dec_cons n.toNat
    exact ⟨c, t, e, kb_dig hc⟩
theorem js_first (k n : Int) (s : ByteArray) (l : List Va) (ks : List ByteArray) (f : List Va) (h0 : 0 ≤ k) (h5 : k ≤ 5) : ∃ c t, (Va.mk k n s l ks f).js = c :: t ∧ kb c = k := by
  rcases (by omega : k = 0 ∨ k = 1 ∨ k = 2 ∨ k = 3 ∨ k = 4 ∨ k = 5) with h | h | h | h | h | h
  · rw [js_null h, h]; exact ⟨_, _, rfl, by decide⟩
  · subst h
    simp only [Va.js, if_true]
    split
    · exact ⟨_, _, rfl, by decide⟩
    · exact ⟨_, _, rfl, by decide⟩
  · rw [js_int h, h]; exact kb_itoa n
  · rw [js_str h, h]; exact ⟨_, _, rfl, by decide⟩
  · rw [js_list h, h]; exact ⟨_, _, rfl, by decide⟩
  · rw [js_obj h, h]; exact ⟨_, _, rfl, by decide⟩
theorem js_first' {a : Va} {d : Nat} (h : a.R d) : ∃ c t, a.js = c :: t ∧ kb c ≤ 5 := by
  obtain ⟨k, n, s, l, ks, f⟩ := a
  simp only [Va.R] at h
  obtain ⟨c, t, e, hk⟩ := js_first k n s l ks f h.2.1.k0 h.2.1.k5
  exact ⟨c, t, e, by rw [hk]; exact h.2.1.k5⟩
/-- What of one value is told. -/
def Inj (a : Va) : Prop := ∀ (b : Va) (d d' : Nat) (r r' : List UInt8), a.R d → a.W → b.R d' → b.W → Dl r → Dl r' → a.js ++ r = b.js ++ r' → a = b ∧ r = r'
theorem dl_L (l : List Va) (t : List UInt8) : Dl (jsL l true ++ 93 :: t) := by
  intro c hc
  cases l with
  | nil => simp [jsL] at hc; subst hc; decide
  | cons x r => simp [jsL] at hc; subst hc; decide
theorem dl_F (f : List Va) (ks : List ByteArray) (t : List UInt8) : Dl (jsF f ks true ++ 125 :: t) := by
  intro c hc
  cases f with
  | nil => simp [jsF] at hc; subst hc; decide
  | cons x r => simp [jsF] at hc; subst hc; decide
theorem end_ne_L {y : Va} {d : Nat} (h : y.R d) (b : Bool) (X T r : List UInt8) (e : 93 :: r = (if b = true then [44] else []) ++ (y.js ++ X) ++ T) : False := by
  cases b
  · obtain ⟨c, t, e1, h1⟩ := js_first' h
    rw [e1] at e
    simp at e
    rw [← e.1] at h1
    exact absurd h1 (by decide)
  · simp at e
theorem jsL_inj : ∀ (l l' : List Va) (b : Bool) (d d' : Nat) (r r' : List UInt8), (∀ x ∈ l, Inj x) → RL l d → WL l → RL l' d' → WL l' → jsL l b ++ 93 :: r = jsL l' b ++ 93 :: r' → l = l' ∧ r = r'
  | [], [], b, d, d', r, r', _, _, _, _, _, h => by
    simp [jsL] at h; exact ⟨rfl, h⟩
  | [], y :: m, b, d, d', r, r', _, _, _, hr', _, h => by
    simp only [RL] at hr'
    simp only [jsL] at h
    exact (end_ne_L hr'.1 b _ _ _ h).elim
  | x :: l, [], b, d, d', r, r', _, hr, _, _, _, h => by
    simp only [RL] at hr
    simp only [jsL] at h
    exact (end_ne_L hr.1 b _ _ _ h.symm).elim
  | x :: l, y :: m, b, d, d', r, r', ih, hr, hw, hr', hw', h => by
    simp only [RL] at hr hr'
    simp only [WL] at hw hw'
    simp only [jsL, List.append_assoc] at h
    have h := List.append_cancel_left h
    obtain ⟨e1, e2⟩ := ih x (by simp) y d d' _ _ hr.1 hw.1 hr'.1 hw'.1 (dl_L _ _) (dl_L _ _) h
    obtain ⟨e3, e4⟩ := jsL_inj l m true d d' r r' (fun z hz => ih z (by simp [hz])) hr.2 hw.2 hr'.2 hw'.2 e2
    exact ⟨by rw [e1, e3], e4⟩
theorem jsF_inj : ∀ (f f' : List Va) (ks ks' : List ByteArray) (b : Bool) (d d' : Nat) (r r' : List UInt8), (∀ x ∈ f, Inj x) → ks.length = f.length → ks'.length = f'.length → (∀ k ∈ ks, rightB k = true) → (∀ k ∈ ks', rightB k = true) → RL f d → WL f → RL f' d' → WL f' → jsF f ks b ++ 125 :: r = jsF f' ks' b ++ 125 :: r' → f = f' ∧ ks = ks' ∧ r = r'
  | [], [], ks, ks', b, d, d', r, r', _, hk, hk', _, _, _, _, _, _, h => by
    simp [jsF] at h
    have e1 : ks = [] := List.length_eq_zero_iff.1 (by simpa using hk)
    have e2 : ks' = [] := List.length_eq_zero_iff.1 (by simpa using hk')
    exact ⟨rfl, by rw [e1, e2], h⟩
  | [], y :: m, ks, ks', b, d, d', r, r', _, _, _, _, _, _, _, _, _, h => by
    simp only [jsF] at h
    cases b <;> simp [qL] at h
  | x :: l, [], ks, ks', b, d, d', r, r', _, _, _, _, _, _, _, _, _, h => by
    simp only [jsF] at h
    cases b <;> simp [qL] at h
  | x :: l, y :: m, ks, ks', b, d, d', r, r', ih, hk, hk', ht, ht', hr, hw, hr', hw', h => by
    cases ks with
    | nil => simp at hk
    | cons key ks =>
    cases ks' with
    | nil => simp at hk'
    | cons key' ks' =>
    simp only [RL] at hr hr'
    simp only [WL] at hw hw'
    simp only [jsF, List.append_assoc, List.headD_cons, List.tail_cons, List.cons_append] at h
    have h := List.append_cancel_left h
    obtain ⟨e0, h⟩ := str_split (ht key (by simp)) (ht' key' (by simp)) h
    have h := (List.cons.inj h).2
    obtain ⟨e1, e2⟩ := ih x (by simp) y d d' _ _ hr.1 hw.1 hr'.1 hw'.1 (dl_F _ _ _) (dl_F _ _ _) h
    obtain ⟨e3, e4, e5⟩ := jsF_inj l m ks ks' true d d' r r' (fun z hz => ih z (by simp [hz])) (by simpa using hk) (by simpa using hk') (fun z hz => ht z (by simp [hz])) (fun z hz => ht' z (by simp [hz])) hr.2 hw.2 hr'.2 hw'.2 e2
    exact ⟨by rw [e1, e3], by rw [e0, e4], e5⟩
theorem len0 {α : Type} {l : List α} (h : ¬ 0 < l.length) : l = [] := List.length_eq_zero_iff.1 (by omega)
theorem js_split : ∀ (a : Va), Inj a := by
  intro a
  induction a using Va.ind with
  | h k n s l ks f ihl ihf =>
    rintro ⟨k', n', s', l', ks', f'⟩ d d' r r' hr hw hr' hw' hd hd' h
    simp only [Va.R] at hr hr'
    simp only [Va.W] at hw hw'
    obtain ⟨-, ht, hk, hrl, hrf⟩ := hr
    obtain ⟨-, ht', hk', hrl', hrf'⟩ := hr'
    obtain ⟨w1, w2, w3⟩ := hw
    obtain ⟨w1', w2', w3'⟩ := hw'
    obtain ⟨c, t, e1, e2⟩ := js_first k n s l ks f ht.k0 ht.k5
    obtain ⟨c', t', e1', e2'⟩ := js_first k' n' s' l' ks' f' ht'.k0 ht'.k5
    have ek : k = k' := by
      rw [e1, e1'] at h
      have : c = c' := (List.cons.inj h).1
      rw [← e2, ← e2', this]
    subst ek
    clear e1 e2 e1' e2'
    have es : k ≠ 3 → s = s' := fun h3 => by
      rw [empty_of (s := s) (by have := ht.c2; omega), empty_of (s := s') (by have := ht'.c2; omega)]
    have en : k ≠ 1 → k ≠ 2 → n = n' := fun h1 h2 => by
      have := ht.c1; have := ht'.c1; omega
    have el : k ≠ 4 → l = l' := fun h4 => by
      rw [len0 (l := l) (fun x => ht.c3 ⟨h4, x⟩), len0 (l := l') (fun x => ht'.c3 ⟨h4, x⟩)]
    have ef : k ≠ 5 → f = f' ∧ ks = ks' := fun h5 => by
      have a1 : f = [] := len0 (fun x => ht.c4 ⟨h5, x⟩)
      have a2 : f' = [] := len0 (fun x => ht'.c4 ⟨h5, x⟩)
      subst a1 a2
      exact ⟨rfl, by rw [List.length_eq_zero_iff.1 w1, List.length_eq_zero_iff.1 w1']⟩
    rcases (by have := ht.k0; have := ht.k5; omega : k = 0 ∨ k = 1 ∨ k = 2 ∨ k = 3 ∨ k = 4 ∨ k = 5) with h0 | h0 | h0 | h0 | h0 | h0
    · rw [js_null h0, js_null h0] at h
      obtain ⟨q1, q2⟩ := ef (by omega)
      exact ⟨by rw [es (by omega), en (by omega) (by omega), el (by omega), q1, q2], List.append_cancel_left h⟩
    · have c5 := ht.c5
      have c5' := ht'.c5
      have hn : n = n' ∧ r = r' := by
        subst h0
        simp only [Va.js, if_true] at h
        by_cases h1 : n = 1
        · by_cases h2 : n' = 1
          · rw [if_pos h1, if_pos h2] at h
            exact ⟨by omega, List.append_cancel_left h⟩
          · rw [if_pos h1, if_neg h2] at h
            simp at h
        · by_cases h2 : n' = 1
          · rw [if_neg h1, if_pos h2] at h
            simp at h
          · rw [if_neg h1, if_neg h2] at h
            exact ⟨by omega, List.append_cancel_left h⟩
      obtain ⟨q1, q2⟩ := ef (by omega)
      exact ⟨by rw [es (by omega), hn.1, el (by omega), q1, q2], hn.2⟩
    · rw [js_int h0, js_int h0] at h
      obtain ⟨hn, hrr⟩ := itoa_split hd hd' h
      obtain ⟨q1, q2⟩ := ef (by omega)
      exact ⟨by rw [es (by omega), hn, el (by omega), q1, q2], hrr⟩
    · rw [js_str h0, js_str h0] at h
      obtain ⟨hs, hrr⟩ := str_split ht.c8 ht'.c8 h
      obtain ⟨q1, q2⟩ := ef (by omega)
      exact ⟨by rw [hs, en (by omega) (by omega), el (by omega), q1, q2], hrr⟩
    · rw [js_list h0, js_list h0] at h
      simp only [List.cons_append, List.append_assoc, List.nil_append] at h
      obtain ⟨hl, hrr⟩ := jsL_inj l l' false _ _ _ _ ihl hrl w2 hrl' w2' (List.cons.inj h).2
      obtain ⟨q1, q2⟩ := ef (by omega)
      exact ⟨by rw [es (by omega), en (by omega) (by omega), hl, q1, q2], hrr⟩
    · rw [js_obj h0, js_obj h0] at h
      simp only [List.cons_append, List.append_assoc, List.nil_append] at h
      obtain ⟨hf, hks, hrr⟩ := jsF_inj f f' ks ks' false _ _ _ _ ihf w1 w1' hk.1 hk'.1 hrf w3 hrf' w3' (List.cons.inj h).2
      exact ⟨by rw [es (by omega), en (by omega) (by omega), el (by omega), hf, hks], hrr⟩
theorem js_inj {a b : Va} {d d' : Nat} (ha : a.R d) (hw : a.W) (hb : b.R d') (hw' : b.W) (h : a.js = b.js) : a = b :=
  (js_split a b d d' [] [] ha hw hb hw' (by intro c hc; simp at hc) (by intro c hc; simp at hc) (by simpa using h)).1
end Go.Proofs.YtbinmhcjadkmgaaDoor
