/- Paths: steps as data, and how they lie; how many steps of two paths are the same. -/
import Derived.Test.YtmdlcalnncncjaaTA
import Derived.Deep.Slices
import Derived.BigQuiet
import Derived.Laws.StructEq
set_option linter.unusedVariables false
set_option linter.unusedSimpArgs false
namespace Go.Proofs.Ytmdlcalnncncjaa
open Go.RowKit
/-- A step: key, place, whether it is a place. -/
structure St where
  k : ByteArray
  a : Int
  i : Bool
deriving DecidableEq
def St.cells (s : St) : List Value := [.string s.k, .int .i64 s.a, .bool s.i]
/-- What a step's fields may hold. -/
def St.ok (s : St) : Prop := s.k.size ≤ maxLen ∧ -9223372036854775808 ≤ s.a ∧ s.a ≤ 9223372036854775807
/-- The three cells at an address. -/
def At3 (w : World) (q : Addr) (s : St) : Prop := w.cell? q = some (.string s.k) ∧ w.cell? ⟨q.block, q.off + 1, none⟩ = some (.int .i64 s.a) ∧ w.cell? ⟨q.block, q.off + 2, none⟩ = some (.bool s.i)
theorem At3.below {w w' : World} {q : Addr} {s : St} {B : Nat} (h : At3 w q s) (hb : Below B w w') (hq : q.block < B) : At3 w' q s :=
  ⟨(hb.cell hq).trans h.1, (hb.cell (p := ⟨q.block, _, none⟩) hq).trans h.2.1, (hb.cell (p := ⟨q.block, _, none⟩) hq).trans h.2.2⟩
theorem At3.of {w : World} {q : Addr} {s : St} (h : ∀ (j : Nat) c, s.cells[j]? = some c → w.cell? (q.add j) = some c) : At3 w q s := by
  refine ⟨?_, ?_, ?_⟩
  · have := h 0 _ rfl; simpa [Addr.add] using this
  · have := h 1 _ rfl; rwa [add_pos _ (by decide)] at this
  · have := h 2 _ rfl; rwa [add_pos _ (by decide)] at this
/-- A path's steps, one behind the other from A on. -/
def PathAt (w : World) (A : Option Addr) (p : List St) : Prop := ∀ (i : Nat) s, p[i]? = some s → ∃ ad, A = some ad ∧ (ad.add (i * 3)).block < w.heap.size ∧ At3 w (ad.add (i * 3)) s ∧ s.ok
theorem PathAt.below {w w' : World} {A : Option Addr} {p : List St} {B : Nat} (h : PathAt w A p) (hb : Below B w w') (hB : w.heap.size ≤ B) : PathAt w' A p := by
  intro i s hs
  obtain ⟨ad, e, h1, h2, h3⟩ := h i s hs
  exact ⟨ad, e, by have := hb.size; omega, h2.below hb (by omega), h3⟩
theorem PathAt.nil (w : World) (A : Option Addr) : PathAt w A [] := fun i s h => by simp at h
theorem below_drewN3 {B : Nat} {a w : World} (h : Below B a w) (n : Nat) : Below B a (w.drewN n) := h.trans ⟨rfl, rfl, rfl, Nat.le_refl _, fun _ _ => rfl⟩
/-- How many steps are the same, from the beginning on. -/
def meet : List St → List St → Nat
  | x :: p, y :: q => if x = y then meet p q + 1 else 0
  | _, _ => 0
theorem meet_le : ∀ p q : List St, meet p q ≤ p.length ∧ meet p q ≤ q.length
  | [], q => by simp [meet]
  | x :: p, [] => by simp [meet]
  | x :: p, y :: q => by
    have := meet_le p q
    simp only [meet]
    split <;> simp <;> omega
theorem meet_take : ∀ p q : List St, p.take (meet p q) = q.take (meet p q)
  | [], q => by simp [meet]
  | x :: p, [] => by simp [meet]
  | x :: p, y :: q => by
    simp only [meet]
    split
    · rename_i h
      subst h
      simp [meet_take p q]
    · simp
theorem meet_ne : ∀ (p q : List St) s t, p[meet p q]? = some s → q[meet p q]? = some t → s ≠ t
  | [], q, s, t, h, _ => by simp at h
  | x :: p, [], s, t, _, h => by simp at h
  | x :: p, y :: q, s, t, h, k => by
    simp only [meet] at h k
    split at h
    · rename_i e
      simp only [e, if_true] at k
      exact meet_ne p q s t (by simpa using h) (by simpa using k)
    · rename_i e
      simp only [e, if_false] at k
      simp at h k
      subst h k
      exact e
/-- n steps are the same, and no more: that is the meeting. -/
theorem meet_eq {p q : List St} {n : Nat} (hn : n ≤ p.length) (hm : n ≤ q.length) (ht : p.take n = q.take n) (hs : ∀ s t, p[n]? = some s → q[n]? = some t → s ≠ t) : meet p q = n := by
  induction n generalizing p q with
  | zero =>
    cases p with
    | nil => simp [meet]
    | cons x p =>
      cases q with
      | nil => simp [meet]
      | cons y q => simp only [meet]; rw [if_neg (hs x y rfl rfl)]
  | succ n ih =>
    cases p with
    | nil => simp at hn
    | cons x p =>
      cases q with
      | nil => simp at hm
      | cons y q =>
        simp only [List.take_succ_cons, List.cons.injEq] at ht
        obtain ⟨rfl, ht⟩ := ht
        simp only [meet, if_true]
        rw [ih (by simpa using hn) (by simpa using hm) ht (fun s t h k => hs s t (by simpa using h) (by simpa using k))]
theorem take_two {p q : List St} {n : Nat} {s : St} (h : p.take n = q.take n) (hp : p[n]? = some s) (hq : q[n]? = some s) : p.take (n + 1) = q.take (n + 1) := by
  rw [List.take_add_one, List.take_add_one, h, hp, hq]
set_option maxHeartbeats 1000000 in
set_option maxRecDepth 100000 in
theorem meeting_any (p q : List St) (A B : Option Addr) (c d : Nat) (w : World) (hA : PathAt w A p) (hB : PathAt w B q) (hp : p.length ≤ 1000) (hq : q.length ≤ 1000) :
    Calls Try.prog 95 #[.slice A p.length c, .slice B q.length d] w fun e w' => e = .returned (.int .i64 (meet p q : Nat)) ∧ Below w.heap.size w w' := by
  go_enter Try.func95, Try.ntmps95
  go_wp2_with fail
  go_loopw [5] (fun iv wr => ∃ i : Nat, iv = .int .i64 i ∧ i ≤ p.length ∧ i ≤ q.length ∧ p.take i = q.take i ∧ Below w.heap.size w wr) (fun iv _ => p.length - (intOf iv).toNat)
  case atStart => exact ⟨0, rfl, Nat.zero_le _, Nat.zero_le _, by simp, Below.refl _ _⟩
  case round =>
    obtain ⟨i, rfl, hi, hi2, ht, hbel⟩ := hrel
    have HT := Lib.hid ht
    have HB := Lib.hid hbel
    clear ht hbel
    by_cases h1 : i < p.length
    · by_cases h2 : i < q.length
      · obtain ⟨s, hs⟩ : ∃ s, p[i]? = some s := ⟨p[i], List.getElem?_eq_getElem h1⟩
        obtain ⟨t, ht⟩ : ∃ t, q[i]? = some t := ⟨q[i], List.getElem?_eq_getElem h2⟩
        obtain ⟨ad, rfl, hbl, hc, -⟩ := hA i s hs
        obtain ⟨bd, rfl, hbl2, hc2, -⟩ := hB i t ht
        obtain ⟨q0, q1, q2⟩ := hc.below HB.out hbl
        obtain ⟨r0, r1, r2⟩ := hc2.below HB.out hbl2
        have HS := Lib.hid hs
        have HT2 := Lib.hid ht
        clear hc hc2 hs ht hbl hbl2
        obtain ⟨sk, sa, si⟩ := s
        obtain ⟨tk, ta, ti⟩ := t
        simp only at q0 q1 q2 r0 r1 r2
        by_cases ek : sk = tk
        · by_cases ea : sa = ta
          · by_cases ei : si = ti
            · subst ek ea ei
              have HN := Lib.hid (take_two HT.out HS.out HT2.out)
              go_wp2_with fail
              go_quiet (fail)
              go_wp2_with fail
              exact ⟨⟨i + 1, by go_num, by omega, by omega, HN.out, below_drewN3 HB.out _⟩, by simp [intOf]; omega⟩
            · have HM := Lib.hid (meet_eq hi hi2 HT.out (fun s t h k => by rw [HS.out] at h; rw [HT2.out] at k; cases h; cases k; simp [ei]))
              have ek' := bytes_eq ek
              have ei' : (si == ti) = false := by simpa using ei
              subst ea
              clear ek ei
              go_wp2_with fail
              go_quiet (fail)
              go_wp2_with fail
              go_ret
              exact ⟨ret_int (by rw [HM.out]), below_drewN3 HB.out _⟩
          · have HM := Lib.hid (meet_eq hi hi2 HT.out (fun s t h k => by rw [HS.out] at h; rw [HT2.out] at k; cases h; cases k; simp [ea]))
            have ek' := bytes_eq ek
            have ea' : (sa == ta) = false := by simpa using ea
            clear ek ea
            go_wp2_with fail
            go_quiet (fail)
            go_wp2_with fail
            go_ret
            exact ⟨ret_int (by rw [HM.out]), below_drewN3 HB.out _⟩
        · have HM := Lib.hid (meet_eq hi hi2 HT.out (fun s t h k => by rw [HS.out] at h; rw [HT2.out] at k; cases h; cases k; simp [ek]))
          have ek' := bytes_ne ek
          clear ek
          go_wp2_with fail
          go_quiet (fail)
          go_wp2_with fail
          go_ret
          exact ⟨ret_int (by rw [HM.out]), below_drewN3 HB.out _⟩
      · have HM := Lib.hid (meet_eq hi hi2 HT.out (fun s t h k => by rw [List.getElem?_eq_none (by omega)] at k; cases k))
        go_wp2_with fail
        go_quiet (fail)
        go_wp2_with fail
        go_ret
        exact ⟨ret_int (by rw [HM.out]), below_drewN3 HB.out _⟩
    · have HM := Lib.hid (meet_eq hi hi2 HT.out (fun s t h k => by rw [List.getElem?_eq_none (by omega)] at h; cases h))
      go_wp2_with fail
      go_quiet (fail)
      go_wp2_with fail
      go_ret
      exact ⟨ret_int (by rw [HM.out]), below_drewN3 HB.out _⟩
end Go.Proofs.Ytmdlcalnncncjaa
