/- path.Right, and the reference's. -/
import Derived.Test.YtmdlcalnncncjaaPSm
import Derived.Test.YtmdlcalnncncjaaTRight
import Derived.Test.YtmdlcalnncncjaaRefBad
set_option linter.unusedVariables false
set_option linter.unusedSimpArgs false
namespace Go.Proofs.Ytmdlcalnncncjaa
open Go.RowKit
/-- A right step. -/
def StR (s : St) : Prop := (s.i = true ∧ s.k.size = 0 ∧ 0 ≤ s.a ∧ s.a ≤ 9007199254740991) ∨ (s.i = false ∧ s.a = 0 ∧ rightB s.k = true)
def PathR (p : List St) : Prop := p.length ≤ 30 ∧ ∀ s ∈ p, StR s
theorem bq_no {a b : Int} (h : a ≠ b) : (a == b) = false := by simpa using h
set_option maxHeartbeats 400000 in
theorem wrong_any (s : St) (hok : s.ok) (w : World) : Calls Try.prog 85 #[.agg #[.string s.k, .int .i64 s.a, .bool s.i]] w fun e w' => YesNo (¬ StR s) w e w' := by
  obtain ⟨sk, sa, si⟩ := s
  obtain ⟨ok1, ok2, ok3⟩ := hok
  simp only at ok1 ok2 ok3 ⊢
  have HB0 : Hid (Below w.heap.size w (w.alloc (Obj.cells #[.string sk, .int .i64 sa, .bool si] 72))) := Lib.hid ((Below.refl _ _).alloc (Nat.le_refl _) _)
  cases si
  · by_cases h0 : sa = 0
    · subst h0
      have H1 := Lib.hid (right_any sk ok1 (w.alloc (Obj.cells #[.string sk, .int .i64 0, .bool false] 72)))
      generalize hr : rightB sk = r at H1
      have HR := Lib.hid hr
      clear hr
      go_enter Try.func85, Try.ntmps85
      go_wp2_with fail
      refine H1.out.mono ?_
      rintro e w1 ⟨rfl, hb1⟩
      have HB1 := Lib.hid (after_alloc hb1).1
      clear hb1 H1
      cases r
      · go_wp2_with fail
        go_ret
        refine YesNo.yes (fun h => ?_) HB1.out
        rcases h with ⟨h, _⟩ | ⟨_, _, h⟩
        · cases h
        · have := HR.out; simp only at h; rw [h] at this; cases this
      · go_wp2_with fail
        go_ret
        exact YesNo.no (fun h => h (.inr ⟨rfl, rfl, HR.out⟩)) HB1.out
    · have h0' := bq_no h0
      have HE := Lib.hid h0
      clear h0
      go_enter Try.func85, Try.ntmps85
      go_wp2_with fail
      go_ret
      refine YesNo.yes (fun h => ?_) HB0.out
      rcases h with ⟨h, _⟩ | ⟨_, h, _⟩
      · cases h
      · exact HE.out h
  · by_cases h0 : sk.size = 0
    · obtain rfl : sk = ⟨#[]⟩ := empty_of h0
      by_cases h1 : sa < 0
      · go_enter Try.func85, Try.ntmps85
        go_wp2_with fail
        go_ret
        refine YesNo.yes (fun h => ?_) HB0.out
        rcases h with ⟨_, _, h, _⟩ | ⟨h, _⟩
        · simp only at h; omega
        · cases h
      · by_cases h2 : 9007199254740991 < sa
        · go_enter Try.func85, Try.ntmps85
          go_wp2_with fail
          go_ret
          refine YesNo.yes (fun h => ?_) HB0.out
          rcases h with ⟨_, _, _, h⟩ | ⟨h, _⟩
          · simp only at h; omega
          · cases h
        · go_enter Try.func85, Try.ntmps85
          go_wp2_with fail
          go_ret
          exact YesNo.no (fun h => h (.inl ⟨rfl, rfl, by simp only; omega, by simp only; omega⟩)) HB0.out
    · have ds := ne_empty h0
      have HE := Lib.hid h0
      clear h0
      go_enter Try.func85, Try.ntmps85
      go_wp2_with fail
      go_ret
      refine YesNo.yes (fun h => ?_) HB0.out
      rcases h with ⟨_, h, _⟩ | ⟨h, _⟩
      · exact HE.out h
      · cases h
theorem all_next {p : List St} {q : St → Prop} {i : Nat} {s : St} (h : ∀ t ∈ p.take i, q t) (hs : p[i]? = some s) (hq : q s) : ∀ t ∈ p.take (i + 1), q t := by
  intro t ht
  rw [List.take_add_one, hs] at ht
  rcases List.mem_append.1 ht with ht | ht
  · exact h t ht
  · simp at ht; subst ht; exact hq
/-- What a search for a wrong step answers. -/
def WrongR (p : List St) (w : World) (e : Ending) (w' : World) : Prop := ∃ n : Int, e = .returned (.int .i64 n) ∧ (0 ≤ n ↔ ¬ ∀ s ∈ p, StR s) ∧ Below w.heap.size w w'
set_option maxHeartbeats 400000 in
theorem indexS_any (p : List St) (A : Option Addr) (c : Nat) (w : World) (hn : p.length ≤ 1000) (hA : PathAt w A p) :
    Calls Try.prog 110 #[.slice A p.length c, .func (.func 85) #[] #[]] w fun e w' => WrongR p w e w' := by
  go_enter Try.func110, Try.ntmps110
  go_wp2_with fail
  go_loopw [8] (fun iv wr => ∃ i : Nat, iv = .int .i64 i ∧ i ≤ p.length ∧ (∀ s ∈ p.take i, StR s) ∧ Below w.heap.size w wr) (fun iv _ => p.length - (intOf iv).toNat)
  case atStart => exact ⟨0, rfl, Nat.zero_le _, by simp, Below.refl _ _⟩
  case round =>
    obtain ⟨i, rfl, hi, hnk, hbel⟩ := hrel
    have HNK := Lib.hid hnk
    have HB := Lib.hid hbel
    clear hnk hbel
    by_cases hlt : i < p.length
    · obtain ⟨s, hs⟩ : ∃ s, p[i]? = some s := ⟨p[i], List.getElem?_eq_getElem hlt⟩
      obtain ⟨ad, rfl, hbl, hcell, hok⟩ := hA i s hs
      obtain ⟨q0, q1, q2⟩ := hcell.below HB.out hbl
      have HS := Lib.hid hs
      have HK := Lib.hid (wrong_any s hok wr)
      clear hcell hs hok
      go_wp2_with fail
      refine HK.out.mono ?_
      rintro e w1 ⟨r, rfl, hr, hb1⟩
      have HR := Lib.hid hr
      have HB1 := Lib.hid hb1
      clear hr hb1 HK
      cases r
      · have hnk2 := Lib.hid (all_next HNK.out HS.out (Classical.byContradiction fun h => by have := HR.out.2 h; cases this))
        go_wp2_with fail
        exact ⟨⟨i + 1, by go_num, by omega, hnk2.out, HB.out.trans (HB1.out.mono HB.out.size)⟩, by simp [intOf]; omega⟩
      · have HNO := Lib.hid (HR.out.1 rfl)
        go_wp2_with fail
        go_ret
        exact ⟨i, rfl, ⟨fun _ h => HNO.out (h s (List.mem_of_getElem? HS.out)), fun _ => by omega⟩, HB.out.trans (HB1.out.mono HB.out.size)⟩
    · have hall : Hid (∀ s ∈ p, StR s) := by have := HNK.out; rw [List.take_of_length_le (by omega)] at this; exact this
      go_wp2_with fail
      go_ret
      exact ⟨-1, rfl, ⟨fun h => by omega, fun h => absurd hall.out h⟩, HB.out⟩
theorem containsS_any (p : List St) (A : Option Addr) (c : Nat) (w : World) (hn : p.length ≤ 1000) (hA : PathAt w A p) :
    Calls Try.prog 84 #[.slice A p.length c, .func (.func 85) #[] #[]] w fun e w' => YesNo (¬ ∀ s ∈ p, StR s) w e w' := by
  have H1 := Lib.hid (indexS_any p A c w hn hA)
  go_enter Try.func84, Try.ntmps84
  go_wp2_with fail
  refine H1.out.mono ?_
  rintro e w1 ⟨n, rfl, hn, hb1⟩
  have HN := Lib.hid hn
  have HB1 := Lib.hid hb1
  clear hn hb1 H1
  go_wp2_with fail
  go_ret
  exact ⟨_, rfl, by rw [← HN.out]; simp, HB1.out⟩
theorem path_right (p : List St) (A : Option Addr) (n c : Nat) (w : World) (hnl : n = p.length) (hn : p.length ≤ maxLen) (hA : PathAt w A p) :
    Calls Try.prog 43 #[.slice A n c] w fun e w' => YesNo (PathR p) w e w' := by
  subst hnl
  unfold maxLen at hn
  by_cases h0 : p.length ≤ 30
  · have H1 := Lib.hid (containsS_any p A c w (by omega) hA)
    clear hA
    go_enter Try.func43, Try.ntmps43
    go_wp2_with fail
    refine H1.out.mono ?_
    rintro e w1 ⟨r, rfl, hr, hb1⟩
    have HR := Lib.hid hr
    have HB1 := Lib.hid hb1
    clear hr hb1 H1
    cases r
    · go_wp2_with fail
      go_ret
      exact YesNo.yes ⟨h0, Classical.byContradiction fun h => by have := HR.out.2 h; cases this⟩ HB1.out
    · have HNO := Lib.hid (HR.out.1 rfl)
      go_wp2_with fail
      go_ret
      exact YesNo.no (fun h => HNO.out h.2) HB1.out
  · go_enter Try.func43, Try.ntmps43
    go_wp2_with fail
    go_ret
    exact YesNo.no (fun h => h0 h.1) (Below.refl _ _)
end Go.Proofs.Ytmdlcalnncncjaa
