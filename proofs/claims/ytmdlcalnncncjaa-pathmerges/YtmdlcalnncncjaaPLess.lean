/- path.Less, Under, Same, Key, Place; the reference's Few. -/
import Derived.Test.YtmdlcalnncncjaaPPa
import Derived.Test.YtmdlcalnncncjaaTClone
import Derived.StillTailTactics
set_option linter.unusedVariables false
set_option linter.unusedSimpArgs false
namespace Go.Proofs.Ytmdlcalnncncjaa
open Go.RowKit
theorem bLess_lt : ∀ (x y : List UInt8), Op.bytesLess x y = decide (x < y)
  | [], [] => by simp [Op.bytesLess]
  | _ :: _, [] => by simp [Op.bytesLess]
  | [], _ :: _ => by simp [Op.bytesLess]
  | a :: x, b :: y => by
    rw [Op.bytesLess, bLess_lt x y]
    simp only [List.cons_lt_cons_iff]
    by_cases h1 : a < b <;> by_cases h2 : a = b <;> by_cases h3 : x < y <;> simp [h1, h2, h3]
def lessK (x y : ByteArray) : Bool := Op.bytesLess x.toList y.toList
theorem lessK_irrefl (x : ByteArray) : lessK x x = false := by simp [lessK, bLess_lt, List.lt_irrefl]
theorem lessK_trans {x y z : ByteArray} (h1 : lessK x y = true) (h2 : lessK y z = true) : lessK x z = true := by
  simp only [lessK, bLess_lt, decide_eq_true_eq] at *
  exact List.lt_trans h1 h2
/-- One step ahead of another. -/
def lessS (s t : St) : Bool := if s.i = t.i then (if s.k = t.k then decide (s.a < t.a) else lessK s.k t.k) else t.i
theorem lessS_irrefl (s : St) : lessS s s = false := by simp [lessS]
theorem lessS_trans {s t u : St} (h : lessS s t = true) (k : lessS t u = true) : lessS s u = true := by
  obtain ⟨sk, sa, si⟩ := s
  obtain ⟨tk, ta, ti⟩ := t
  obtain ⟨uk, ua, ui⟩ := u
  simp only [lessS] at *
  by_cases e1 : si = ti
  · subst e1
    rw [if_pos rfl] at h
    by_cases e2 : si = ui
    · subst e2
      rw [if_pos rfl] at k ⊢
      by_cases f1 : sk = tk
      · subst f1
        rw [if_pos rfl] at h
        by_cases f2 : sk = uk
        · subst f2
          rw [if_pos rfl] at k ⊢
          simp at *
          omega
        · rw [if_neg f2] at k ⊢
          exact k
      · rw [if_neg f1] at h
        by_cases f2 : tk = uk
        · subst f2
          rw [if_neg f1]
          exact h
        · rw [if_neg f2] at k
          have h3 := lessK_trans h k
          by_cases f3 : sk = uk
          · subst f3
            rw [lessK_irrefl] at h3
            cases h3
          · rw [if_neg f3]
            exact h3
    · rw [if_neg e2] at k ⊢
      exact k
  · rw [if_neg e1] at h
    subst h
    by_cases e2 : (true : Bool) = ui
    · subst e2
      rw [if_neg e1]
    · rw [if_neg e2] at k
      exact absurd k.symm e2
def lessL : List St → List St → Bool
  | [], [] => false
  | [], _ :: _ => true
  | _ :: _, [] => false
  | x :: p, y :: q => if x = y then lessL p q else lessS x y
theorem lessL_trans : ∀ {p q r : List St}, lessL p q = true → lessL q r = true → lessL p r = true
  | [], [], r, h, _ => by simp [lessL] at h
  | [], y :: q, [], _, k => by simp [lessL] at k
  | [], y :: q, z :: r, _, _ => rfl
  | x :: p, [], r, h, _ => by simp [lessL] at h
  | x :: p, y :: q, [], _, k => by simp [lessL] at k
  | x :: p, y :: q, z :: r, h, k => by
    simp only [lessL] at *
    by_cases e1 : x = y
    · subst e1
      rw [if_pos rfl] at h
      by_cases e2 : x = z
      · subst e2
        rw [if_pos rfl] at k ⊢
        exact lessL_trans h k
      · rw [if_neg e2] at k ⊢
        exact k
    · rw [if_neg e1] at h
      by_cases e2 : y = z
      · subst e2
        rw [if_neg e1]
        exact h
      · rw [if_neg e2] at k
        have h3 := lessS_trans h k
        by_cases e3 : x = z
        · subst e3
          rw [lessS_irrefl] at h3
          cases h3
        · rw [if_neg e3]
          exact h3
/-- What the meeting tells of Less. -/
theorem lessL_end : ∀ {p q : List St}, (meet p q = p.length ∨ meet p q = q.length) → lessL p q = decide (p.length < q.length)
  | [], [], _ => by simp [lessL]
  | [], y :: q, _ => by simp [lessL]
  | x :: p, [], _ => by simp [lessL]
  | x :: p, y :: q, h => by
    simp only [meet] at h
    simp only [lessL]
    by_cases e : x = y
    · rw [if_pos e] at h ⊢
      rw [lessL_end (p := p) (q := q) (by simp at h; omega)]
      simp
    · rw [if_neg e] at h
      simp at h
theorem lessL_at : ∀ {p q : List St} {s t : St}, p[meet p q]? = some s → q[meet p q]? = some t → lessL p q = lessS s t
  | [], q, s, t, h, _ => by simp at h
  | x :: p, [], s, t, _, h => by simp at h
  | x :: p, y :: q, s, t, h, k => by
    simp only [meet] at h k
    simp only [lessL]
    by_cases e : x = y
    · rw [if_pos e] at h k ⊢
      exact lessL_at (by simpa using h) (by simpa using k)
    · rw [if_neg e] at h k ⊢
      simp at h k
      rw [h, k]
theorem meet_self (p : List St) : meet p p = p.length := by
  induction p with
  | nil => rfl
  | cons x p ih => simp [meet, ih]
theorem meet_comm : ∀ p q : List St, meet p q = meet q p
  | [], [] => rfl
  | [], y :: q => by simp [meet]
  | x :: p, [] => by simp [meet]
  | x :: p, y :: q => by
    simp only [meet]
    by_cases e : x = y
    · rw [if_pos e, if_pos e.symm, meet_comm p q]
    · rw [if_neg e, if_neg (fun h => e h.symm)]
set_option maxHeartbeats 1000000 in
theorem lessStep_any (s t : St) (w : World) : Calls Try.prog 96 #[.agg #[.string s.k, .int .i64 s.a, .bool s.i], .agg #[.string t.k, .int .i64 t.a, .bool t.i]] w fun e w' => e = .returned (.bool (lessS s t)) ∧ Below w.heap.size w w' := by
  obtain ⟨sk, sa, si⟩ := s
  obtain ⟨tk, ta, ti⟩ := t
  have hl : lessS ⟨sk, sa, si⟩ ⟨tk, ta, ti⟩ = if si = ti then (if sk = tk then decide (sa < ta) else lessK sk tk) else ti := rfl
  generalize lessS ⟨sk, sa, si⟩ ⟨tk, ta, ti⟩ = r at hl ⊢
  have HB0 : Hid (Below w.heap.size w ((w.alloc (Obj.cells #[.string sk, .int .i64 sa, .bool si] 72)).alloc (Obj.cells #[.string tk, .int .i64 ta, .bool ti] 72))) := Lib.hid (((Below.refl _ _).alloc (Nat.le_refl _) _).alloc (by simp) _)
  by_cases ei : si = ti
  · subst ei
    rw [if_pos rfl] at hl
    by_cases ek : sk = tk
    · have ek' := bytes_eq ek
      subst ek
      rw [if_pos rfl] at hl
      have HL := Lib.hid hl
      clear hl
      go_enter Try.func96, Try.ntmps96
      go_wp2_with fail
      go_ret
      exact ⟨ret_bool HL.out.symm, HB0.out⟩
    · have ek' := bytes_ne ek
      rw [if_neg ek] at hl
      have HL := Lib.hid hl
      clear ek hl
      go_enter Try.func96, Try.ntmps96
      go_wp2_with fail
      go_ret
      exact ⟨ret_bool HL.out.symm, HB0.out⟩
  · have ei' : (si == ti) = false := by simpa using ei
    rw [if_neg ei] at hl
    have HL := Lib.hid hl
    clear ei hl
    go_enter Try.func96, Try.ntmps96
    go_wp2_with fail
    go_ret
    exact ⟨ret_bool HL.out.symm, HB0.out⟩
set_option maxHeartbeats 1000000 in
set_option maxRecDepth 100000 in
theorem less_any (p q : List St) (A B : Option Addr) (c d : Nat) (w : World) (hA : PathAt w A p) (hB : PathAt w B q) (hp : p.length ≤ 1000) (hq : q.length ≤ 1000) :
    Calls Try.prog 58 #[.slice A p.length c, .slice B q.length d] w fun e w' => e = .returned (.bool (lessL p q)) ∧ Below w.heap.size w w' := by
  have H1 := Lib.hid (meeting_any p q A B c d w hA hB hp hq)
  have HA := Lib.hid hA
  have HBB := Lib.hid hB
  have hml := meet_le p q
  have HLE := Lib.hid (lessL_end (p := p) (q := q))
  have HLA := Lib.hid (fun s t => lessL_at (p := p) (q := q) (s := s) (t := t))
  obtain ⟨m, hm⟩ : ∃ m : Nat, m = meet p q := ⟨_, rfl⟩
  rw [← hm] at hml H1 HLE
  have HLA2 : Hid (∀ s t, p[m]? = some s → q[m]? = some t → lessL p q = lessS s t) := Lib.hid (fun s t h k => HLA.out s t (by rw [← hm]; exact h) (by rw [← hm]; exact k))
  clear hA hB hm HLA
  go_enter Try.func58, Try.ntmps58
  go_wp2_with fail
  refine H1.out.mono ?_
  rintro e w1 ⟨rfl, hb1⟩
  have HB1 := Lib.hid hb1
  clear hb1 H1
  by_cases h1 : m = p.length
  · have HL := Lib.hid (HLE.out (.inl h1))
    subst h1
    go_wp2_with fail
    go_ret
    exact ⟨ret_bool (by rw [HL.out]), HB1.out⟩
  · by_cases h2 : m = q.length
    · have HL := Lib.hid (HLE.out (.inr h2))
      have h1' : ((m : Int) == (p.length : Int)) = false := by simp; omega
      subst h2
      clear h1
      go_wp2_with fail
      go_ret
      exact ⟨ret_bool (by rw [HL.out]), HB1.out⟩
    · have h1' : ((m : Int) == (p.length : Int)) = false := by simp; omega
      have h2' : ((m : Int) == (q.length : Int)) = false := by simp; omega
      have hm1 : m < p.length := by omega
      have hm2 : m < q.length := by omega
      obtain ⟨s, hs⟩ : ∃ s, p[m]? = some s := ⟨p[m], List.getElem?_eq_getElem hm1⟩
      obtain ⟨t, ht⟩ : ∃ t, q[m]? = some t := ⟨q[m], List.getElem?_eq_getElem hm2⟩
      have HL := Lib.hid (HLA2.out s t hs ht)
      obtain ⟨ad, rfl, hbl, hc, -⟩ := HA.out m s hs
      obtain ⟨bd, rfl, hbl2, hc2, -⟩ := HBB.out m t ht
      obtain ⟨q0, q1, q2⟩ := hc.below HB1.out hbl
      obtain ⟨r0, r1, r2⟩ := hc2.below HB1.out hbl2
      clear h1 h2 hs ht hc hc2 hbl hbl2 HLE HLA2 hml HA HBB
      have K : Hid (∀ w : World, Calls Try.prog 96 #[.agg #[.string s.k, .int .i64 s.a, .bool s.i], .agg #[.string t.k, .int .i64 t.a, .bool t.i]] w fun e w' => e = .returned (.bool (lessS s t)) ∧ Below w.heap.size w w') := Lib.hid (lessStep_any s t)
      go_wp2_with fail
      go_still_tail 8, (by kernel_rfl)
      change wpList _ _ _ _ _ w1.drew
      have hbd : Below w1.heap.size w1 w1.drew := (Below.refl _ _).drew
      generalize w1.drew = w2 at hbd ⊢
      have HBD := Lib.hid hbd
      clear hbd
      go_wp2_with fail
      refine (K.out w2).mono ?_
      rintro e w3 ⟨rfl, hb3⟩
      have HB3 := Lib.hid hb3
      clear hb3
      go_wp2_with fail
      go_ret
      exact ⟨ret_bool HL.out.symm, HB1.out.trans ((HBD.out.trans (HB3.out.mono HBD.out.size)).mono HB1.out.size)⟩
theorem under_any (p q : List St) (A B : Option Addr) (c d : Nat) (w : World) (hA : PathAt w A p) (hB : PathAt w B q) (hp : p.length ≤ 1000) (hq : q.length ≤ 1000) :
    Calls Try.prog 61 #[.slice A p.length c, .slice B q.length d] w fun e w' => e = .returned (.bool (decide (meet p q = p.length))) ∧ Below w.heap.size w w' := by
  have H1 := Lib.hid (meeting_any p q A B c d w hA hB hp hq)
  clear hA hB
  generalize meet p q = m at *
  go_enter Try.func61, Try.ntmps61
  go_wp2_with fail
  refine H1.out.mono ?_
  rintro e w1 ⟨rfl, hb1⟩
  have HB1 := Lib.hid hb1
  clear hb1 H1
  by_cases h1 : m = p.length
  · subst h1
    go_wp2_with fail
    go_ret
    exact ⟨ret_bool (by simp), HB1.out⟩
  · have h1' : ((m : Int) == (p.length : Int)) = false := by simp; omega
    have HE := Lib.hid h1
    clear h1
    go_wp2_with fail
    go_ret
    exact ⟨ret_bool (by rw [decide_eq_false HE.out]), HB1.out⟩
theorem same_path (p q : List St) (A B : Option Addr) (c d : Nat) (w : World) (hA : PathAt w A p) (hB : PathAt w B q) (hp : p.length ≤ 1000) (hq : q.length ≤ 1000) :
    Calls Try.prog 62 #[.slice A p.length c, .slice B q.length d] w fun e w' => e = .returned (.bool (decide (p.length = q.length ∧ meet p q = p.length))) ∧ Below w.heap.size w w' := by
  have H1 := Lib.hid (meeting_any p q A B c d w hA hB hp hq)
  clear hA hB
  generalize meet p q = m at *
  by_cases h0 : p.length = q.length
  · have h0' : ((p.length : Int) == (q.length : Int)) = true := by simp; omega
    have HE0 := Lib.hid h0
    clear h0
    go_enter Try.func62, Try.ntmps62
    go_wp2_with fail
    refine H1.out.mono ?_
    rintro e w1 ⟨rfl, hb1⟩
    have HB1 := Lib.hid hb1
    clear hb1 H1
    by_cases h1 : m = p.length
    · have h1' : ((m : Int) == (p.length : Int)) = true := by simp; omega
      have HE := Lib.hid h1
      clear h1
      go_wp2_with fail
      go_ret
      exact ⟨ret_bool (by rw [decide_eq_true ⟨HE0.out, HE.out⟩]), HB1.out⟩
    · have h1' : ((m : Int) == (p.length : Int)) = false := by simp; omega
      have HE := Lib.hid h1
      clear h1
      go_wp2_with fail
      go_ret
      exact ⟨ret_bool (by rw [decide_eq_false (fun h => HE.out h.2)]), HB1.out⟩
  · have h0' : ((p.length : Int) == (q.length : Int)) = false := by simp; omega
    have HE0 := Lib.hid h0
    clear h0
    go_enter Try.func62, Try.ntmps62
    go_wp2_with fail
    go_ret
    exact ⟨ret_bool (by rw [decide_eq_false (fun h => HE0.out h.1)]), Below.refl _ _⟩
end Go.Proofs.Ytmdlcalnncncjaa
