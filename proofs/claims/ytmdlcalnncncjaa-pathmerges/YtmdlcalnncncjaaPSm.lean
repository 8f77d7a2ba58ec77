/- path.Key, path.Place; the reference's Few. -/
import Derived.Test.YtmdlcalnncncjaaPLess
import Derived.Test.YtmdlcalnncncjaaTNewL
set_option linter.unusedVariables false
set_option linter.unusedSimpArgs false
namespace Go.Proofs.Ytmdlcalnncncjaa
open Go.RowKit
def stAt (s : St) (j : Nat) : Value := s.cells.getD j undef
theorem stAt_row {w : World} {N : Nat} {s : St} (H : w.heap[N]? = some (.cells #[.string s.k, .int .i64 s.a, .bool s.i] 72)) : w.rowIs N 72 3 (stAt s) := by
  refine ⟨_, H, rfl, fun i hi => ?_⟩
  match i, hi with
  | 0, _ => rfl
  | 1, _ => rfl
  | 2, _ => rfl
theorem step_key (s : ByteArray) (hs : s.size ≤ 4294967296) (w : World) : Calls Try.prog 59 #[.string s] w fun e w' => e = .returned (.agg #[.string s, .int .i64 0, .bool false]) ∧ Below w.heap.size w w' := by
  have H1 := Lib.hid (clone_any s hs (w.alloc (Obj.cells #[.string { data := #[] }, .int .i64 0, .bool false] 72)))
  clear hs
  go_enter Try.func59, Try.ntmps59
  go_wp2_with fail
  refine H1.out.mono ?_
  rintro e w1 ⟨rfl, hb1⟩
  have hres := rowIs_below (stAt_row (s := ⟨⟨#[]⟩, 0, false⟩) (heap_alloc_new w _)) hb1 (by simp)
  have HB1 := Lib.hid (after_alloc hb1).1
  have z0 := hres.cell (show 0 < 3 by decide)
  have z1 := hres.cell (show 1 < 3 by decide)
  have z2 := hres.cell (show 2 < 3 by decide)
  have g0 := hres.frozen 0
  have g1 := hres.frozen 1
  have g2 := hres.frozen 2
  simp only [stAt, St.cells, List.getD_cons_succ, List.getD_cons_zero] at z0 z1 z2
  clear hb1 hres H1
  go_wp2_with fail
  refine bodyPost_ret (v := .agg #[.string s, .int .i64 0, .bool false]) (by simp [results, Try.results59, go_sem, z0, z1, z2]) rfl ?_
  exact ⟨rfl, ((HB1.out.setCell (Nat.le_refl _) _).setCell (Nat.le_refl _) _).setCell (Nat.le_refl _) _⟩
theorem step_place (n : Int) (w : World) : Calls Try.prog 60 #[.int .i64 n] w fun e w' => e = .returned (.agg #[.string ⟨#[]⟩, .int .i64 n, .bool true]) ∧ Below w.heap.size w w' := by
  go_enter Try.func60, Try.ntmps60
  go_wp2_with fail
  refine bodyPost_ret (v := .agg #[.string ⟨#[]⟩, .int .i64 n, .bool true]) (by simp [results, Try.results60, go_sem]) rfl ?_
  exact ⟨rfl, (Below.refl _ _).alloc (Nat.le_refl _) _⟩
/-- Few, of a path. -/
def FewS (p : List St) : Prop := p.length ≤ 40 ∧ ∀ s ∈ p, s.k.size ≤ 200
def FewSP (p : List St) (w : World) (e : Ending) (w' : World) : Prop := ∃ r : Bool, e = .returned (.bool r) ∧ (r = true → FewS p) ∧ Below w.heap.size w w'
set_option maxHeartbeats 400000 in
theorem fewS_any (p : List St) (A : Option Addr) (n c : Nat) (w : World) (hn : n = p.length) (hA : PathAt w A p) (hm : p.length ≤ maxLen) : Calls Try.prog 40 #[.slice A n c] w fun e w' => FewSP p w e w' := by
  subst hn
  unfold maxLen at hm
  go_enter Try.func40, Try.ntmps40
  go_wp2_with fail
  go_loopw [3] (fun iv wr => wr = w ∧ ∃ i : Nat, iv = .int .i64 i ∧ i ≤ p.length ∧ i ≤ 50 ∧ ∀ s ∈ p.take i, s.k.size ≤ 200) (fun iv _ => p.length - (intOf iv).toNat)
  case atStart => exact ⟨rfl, 0, rfl, Nat.zero_le _, Nat.zero_le _, by simp⟩
  case round =>
    obtain ⟨rfl, i, rfl, hi, hi2, ht⟩ := hrel
    have HT := Lib.hid ht
    clear ht
    by_cases h1 : i < p.length
    · by_cases h2 : i < 50
      · obtain ⟨s, hs⟩ : ∃ s, p[i]? = some s := ⟨p[i], List.getElem?_eq_getElem h1⟩
        obtain ⟨ad, rfl, hbl, hc, hok⟩ := hA i s hs
        obtain ⟨q0, -, -⟩ := hc
        have HS := Lib.hid hs
        clear hs hok
        by_cases h3 : 200 < s.k.size
        · go_wp2_with fail
          go_ret
          exact ⟨false, rfl, fun h => (by cases h), Below.refl _ _⟩
        · have HN : Hid (∀ s ∈ p.take (i + 1), s.k.size ≤ 200) := Lib.hid (by
            intro t ht
            rw [List.take_add_one, HS.out] at ht
            rcases List.mem_append.1 ht with ht | ht
            · exact HT.out t ht
            · simp at ht; subst ht; omega)
          go_wp2_with fail
          exact ⟨⟨trivial, i + 1, by go_num, by omega, by omega, HN.out⟩, by simp [intOf]; omega⟩
      · have h5 : 40 < p.length := by omega
        go_wp2_with fail
        go_ret
        exact ⟨_, rfl, fun h => (by simp at h; omega), Below.refl _ _⟩
    · have HN : Hid (∀ s ∈ p, s.k.size ≤ 200) := Lib.hid (by have := HT.out; rwa [List.take_of_length_le (by omega)] at this)
      go_wp2_with fail
      go_ret
      exact ⟨_, rfl, fun h => ⟨by simp at h; omega, HN.out⟩, Below.refl _ _⟩
end Go.Proofs.Ytmdlcalnncncjaa
