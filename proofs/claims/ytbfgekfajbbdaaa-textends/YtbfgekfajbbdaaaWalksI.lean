import Derived.Test.YtbfgekfajbbdaaaPlainD
import Derived.Test.YtbfgekfajbbdaaaWalksH
import Derived.Test.YtbfgekfajbbdaaaTextLines
set_option linter.unusedVariables false
set_option linter.unusedSimpArgs false
namespace Go.Proofs.Ytbfgekfajbbdaaa
open Go.RowKit
/-- One of the two line ends that the law puts. -/
def IsEnd (E : ByteArray) : Prop := E.data.toList = [10] ∨ E.data.toList = [13, 10]
theorem isEnd_one : IsEnd ⟨#[10]⟩ := .inl rfl
theorem isEnd_two : IsEnd ⟨#[13, 10]⟩ := .inr rfl
theorem IsEnd.size {E : ByteArray} (h : IsEnd E) : E.size ≤ 2 := by rw [Lib.size_eq]; rcases h with h | h <;> rw [h] <;> decide
def SomeEnd (w : World) (e : Ending) (w' : World) : Prop := ∃ E, IsEnd E ∧ e = .returned (.string E) ∧ w = w'
set_option maxHeartbeats 400000 in
theorem end_any (A : Option Addr) (n c k : Nat) (zs : List Int) (w : World) (hz : zs.length = n) (hn : n ≤ maxLen) (hk : k ≤ 4294967296) (hb : ∀ z ∈ zs, 0 ≤ z ∧ z ≤ 255) (hA : 0 < n → ∃ ad, A = some ad ∧ ∀ i, i < n → w.cell? (ad.add i) = some (.int .u8 (zs.getD i 0))) :
    Calls Try.prog 22 #[.slice A n c, .int .i64 k] w (SomeEnd w) := by
  unfold maxLen at hn
  by_cases hlt : k < n
  · obtain ⟨ad, rfl, hc⟩ := hA (by omega)
    have c1 := hc k hlt
    obtain ⟨z, hz'⟩ : ∃ z, zs[k]? = some z := ⟨zs[k], List.getElem?_eq_getElem (by omega)⟩
    rw [List.getD_eq_getElem?_getD, hz', Option.getD_some] at c1
    have hzb := hb z (List.mem_of_getElem? hz')
    clear hc hb hz'
    by_cases h2 : z % 2 = 0
    · have h2' : (z % 2 == 0) = true := by simpa using h2
      go_enter Try.func22, Try.ntmps22
      go_wp2
      go_ret
      exact ⟨_, isEnd_one, rfl, rfl⟩
    · have h2' : (z % 2 == 0) = false := by simpa using h2
      go_enter Try.func22, Try.ntmps22
      go_wp2
      go_ret
      exact ⟨_, isEnd_two, rfl, rfl⟩
  · go_enter Try.func22, Try.ntmps22
    go_wp2
    go_ret
    exact ⟨_, isEnd_one, rfl, rfl⟩
open textLines in
theorem lines_one (x : ByteArray) (hs : x.size ≤ 4294967296) (h : linesFrom x 0 0 = [x]) (w : World) : Calls Try.prog 20 #[.string x] w fun e w' => ∃ g cap, e = .returned (.slice (some ⟨g, 0, none⟩) 1 cap) ∧ (g < w'.heap.size ∧ w'.cell? ⟨g, 0, none⟩ = some (.string x)) ∧ Below w.heap.size w w' :=
  (lines_go x hs w).mono fun _ _ ⟨g, cap, he, hr, hb⟩ => by
    rw [h] at he hr
    exact ⟨g, cap, he, ⟨hr.1, hr.2 0 x rfl⟩, hb⟩
open textLines in
theorem lines_many (x : ByteArray) (hs : x.size ≤ 4294967296) (m : Nat) (h : (linesFrom x 0 0).length = m) (w : World) : Calls Try.prog 20 #[.string x] w fun e w' => ∃ g cap, e = .returned (.slice (some ⟨g, 0, none⟩) m cap) ∧ Below w.heap.size w w' :=
  (lines_go x hs w).mono fun _ _ ⟨g, cap, he, hr, hb⟩ => by
    rw [h] at he
    exact ⟨g, cap, he, hb⟩
open textLines in
theorem lines_all (x : ByteArray) (hs : x.size ≤ 4294967296) (ss : List ByteArray) (h : linesFrom x 0 0 = ss) (n : Nat) (hn : ss.length = n) (w : World) : Calls Try.prog 20 #[.string x] w fun e w' => ∃ g cap, e = .returned (.slice (some ⟨g, 0, none⟩) n cap) ∧ Row w' g ss ∧ Below w.heap.size w w' :=
  (lines_go x hs w).mono fun _ _ ⟨g, cap, he, hr, hb⟩ => by
    rw [h] at he hr
    rw [hn] at he
    exact ⟨g, cap, he, hr, hb⟩
theorem inv_done {ss : List ByteArray} {S : ByteArray} (h : Inv (ss.map fun x => x.data.toList) ss.length S.data.toList) : linesFrom S 0 0 = ss := by
  have e := lines_bytes S
  rw [h.2 (by simp)] at e
  exact (List.map_inj_right (fun a b hab => ByteArray.ext (by simpa using hab))).1 e
end Go.Proofs.Ytbfgekfajbbdaaa
