/- Loose values: what stands for a value, as it lies in memory. -/
import Derived.Test.YtlhmdbloddpfbaaDTa
set_option linter.unusedVariables false
set_option linter.unusedSimpArgs false
namespace Go.Proofs.Ytlhmdbloddpfbaa
open Go.RowKit
/-- What Odd makes of a value, laid in blocks of S. -/
inductive Ls (w : World) (S : Nat → Prop) : Va → Value → Prop
  | bool {n : Int} {s : ByteArray} {l : List Va} {ks : List ByteArray} {f : List Va} {r : Bool} (h : r = true ↔ n = 1) : Ls w S (.mk 1 n s l ks f) (.iface 4 (.bool r))
  | int {n : Int} {s : ByteArray} {l : List Va} {ks : List ByteArray} {f : List Va} : Ls w S (.mk 2 n s l ks f) (.iface 2 (.int .i64 n))
  | str {n : Int} {s : ByteArray} {l : List Va} {ks : List ByteArray} {f : List Va} : Ls w S (.mk 3 n s l ks f) (.iface 9 (.string s))
  | list {n : Int} {s : ByteArray} {l : List Va} {ks : List ByteArray} {f : List Va} {g : Nat} (xs : List Value) (hn : xs.length = l.length) (hg : g < w.heap.size) (hS : S g) (row : ∀ (i : Nat) x, xs[i]? = some x → w.cell? ⟨g, i, none⟩ = some x) (el : ∀ (i : Nat) y x, l[i]? = some y → xs[i]? = some x → Ls w S y x) : Ls w S (.mk 4 n s l ks f) (.iface 85 (.slice (some ⟨g, 0, none⟩) l.length l.length))
  | obj {n : Int} {s : ByteArray} {l : List Va} {ks : List ByteArray} {f : List Va} {g : Nat} (xs : List Value) (hn : xs.length = f.length) (hg : g < w.heap.size) (hS : S g) (key : ∀ (i : Nat) x, ks[i]? = some x → w.cell? ⟨g, i * 2, none⟩ = some (.string x)) (row : ∀ (i : Nat) x, xs[i]? = some x → w.cell? ⟨g, i * 2 + 1, none⟩ = some x) (el : ∀ (i : Nat) y x, f[i]? = some y → xs[i]? = some x → Ls w S y x) : Ls w S (.mk 5 n s l ks f) (.iface 87 (.slice (some ⟨g, 0, none⟩) f.length f.length))
  | oint {n : Int} {s : ByteArray} {l : List Va} {ks : List ByteArray} {f : List Va} : Ls w S (.mk 9 n s l ks f) (.iface 3 (.int .i64 n))
  | flt {n : Int} {s : ByteArray} {l : List Va} {ks : List ByteArray} {f : List Va} (v : Value) : Ls w S (.mk 10 n s l ks f) (.iface 116 v)
  | lnil {n : Int} {s : ByteArray} {l : List Va} {ks : List ByteArray} {f : List Va} : Ls w S (.mk 11 n s l ks f) (.iface 85 (.slice none 0 0))
  | onil {n : Int} {s : ByteArray} {l : List Va} {ks : List ByteArray} {f : List Va} : Ls w S (.mk 12 n s l ks f) (.iface 87 (.slice none 0 0))
  | none {k n : Int} {s : ByteArray} {l : List Va} {ks : List ByteArray} {f : List Va} (h : k ≠ 1 ∧ k ≠ 2 ∧ k ≠ 3 ∧ k ≠ 4 ∧ k ≠ 5 ∧ k ≠ 9 ∧ k ≠ 10 ∧ k ≠ 11 ∧ k ≠ 12) : Ls w S (.mk k n s l ks f) .nilIface
theorem Ls.keep {w w' : World} {S S' : Nat → Prop} (hs : w.heap.size ≤ w'.heap.size) (hk : ∀ b, S b → b < w.heap.size → w'.heap[b]? = w.heap[b]?) (hS : ∀ b, S b → b < w.heap.size → S' b) : ∀ (a : Va) (x : Value), Ls w S a x → Ls w' S' a x := by
  intro a x H
  induction H with
  | bool h => exact .bool h
  | int => exact .int
  | str => exact .str
  | list xs hn hg hs0 row el ih => exact .list xs hn (by omega) (hS _ hs0 hg) (fun i x hx => (World.cell?_of_block (a := ⟨_, i, .none⟩) (hk _ hs0 hg)).trans (row i x hx)) (fun i y x hy hx => ih i y x hy hx)
  | obj xs hn hg hs0 key row el ih => exact .obj xs hn (by omega) (hS _ hs0 hg) (fun i x hx => (World.cell?_of_block (a := ⟨_, i * 2, .none⟩) (hk _ hs0 hg)).trans (key i x hx)) (fun i x hx => (World.cell?_of_block (a := ⟨_, i * 2 + 1, .none⟩) (hk _ hs0 hg)).trans (row i x hx)) (fun i y x hy hx => ih i y x hy hx)
  | oint => exact .oint
  | flt v => exact .flt v
  | lnil => exact .lnil
  | onil => exact .onil
  | none h => exact .none h
theorem Ls.bel {w w' : World} {S : Nat → Prop} {a : Va} {x : Value} (H : Ls w S a x) (hb : Below w.heap.size w w') : Ls w' S a x := Ls.keep hb.size (fun b _ h => hb.block b h) (fun _ h _ => h) a x H
theorem Ls.mono {w : World} {S S' : Nat → Prop} {a : Va} {x : Value} (H : Ls w S a x) (h : ∀ b, S b → S' b) : Ls w S' a x := Ls.keep (Nat.le_refl _) (fun _ _ _ => rfl) (fun b q _ => h b q) a x H
/-- The Kind that is told of a loose value. -/
def Va.kd : Va → Int
  | .mk k _ _ _ _ _ => if k = 9 then 2 else if k = 10 then -1 else if k = 11 then 4 else if k = 12 then 5 else if k = 1 ∨ k = 2 ∨ k = 3 ∨ k = 4 ∨ k = 5 then k else 0
set_option maxHeartbeats 2000000 in
set_option maxRecDepth 100000 in
theorem dkind_any (a : Va) (x : Value) (S : Nat → Prop) (w : World) (H : Ls w S a x) : Calls Try.prog 40 #[x] w fun e w' => e = .returned (.int .i64 a.kd) ∧ w' = w := by
  cases H with
  | bool h =>
    clear h
    go_enter Try.func40, Try.ntmps40
    go_wp2
    go_ret
    exact ⟨rfl, rfl⟩
  | int =>
    go_enter Try.func40, Try.ntmps40
    go_wp2
    go_ret
    exact ⟨rfl, rfl⟩
  | str =>
    go_enter Try.func40, Try.ntmps40
    go_wp2
    go_ret
    exact ⟨rfl, rfl⟩
  | list xs hn hg hs0 row el =>
    clear row el hn
    go_enter Try.func40, Try.ntmps40
    go_wp2
    go_ret
    exact ⟨rfl, rfl⟩
  | obj xs hn hg hs0 key row el =>
    clear row el hn key
    go_enter Try.func40, Try.ntmps40
    go_wp2
    go_ret
    exact ⟨rfl, rfl⟩
  | oint =>
    go_enter Try.func40, Try.ntmps40
    go_wp2
    go_ret
    exact ⟨rfl, rfl⟩
  | flt v =>
    go_enter Try.func40, Try.ntmps40
    go_wp2
    go_ret
    exact ⟨rfl, rfl⟩
  | lnil =>
    go_enter Try.func40, Try.ntmps40
    go_wp2
    go_ret
    exact ⟨rfl, rfl⟩
  | onil =>
    go_enter Try.func40, Try.ntmps40
    go_wp2
    go_ret
    exact ⟨rfl, rfl⟩
  | none h =>
    have hz := Lib.hid h
    clear h
    go_enter Try.func40, Try.ntmps40
    go_wp2
    go_ret
    obtain ⟨h1, h2, h3, h4, h5, h9, h10, h11, h12⟩ := hz.out
    exact ⟨by simp [Va.kd, h1, h2, h3, h4, h5, h9, h10, h11, h12], rfl⟩
set_option maxHeartbeats 1000000 in
set_option maxRecDepth 100000 in
theorem awake4 (w : World) : Calls Try.prog 36 #[] w fun e w' => e = .returned (.bool true) ∧ w' = w := by
  have h1 : ∀ w, Calls Try.prog 40 #[.iface 9 (.string { data := #[97] })] w fun e w' => e = .returned (.int .i64 3) ∧ w' = w := fun w => dkind_any (Va.mk 3 0 { data := #[97] } [] [] []) _ (fun _ => True) w .str
  have h2 : ∀ w, Calls Try.prog 40 #[.iface 4 (.bool true)] w fun e w' => e = .returned (.int .i64 1) ∧ w' = w := fun w => dkind_any (Va.mk 1 1 ByteArray.empty [] [] []) _ (fun _ => True) w (.bool (by simp))
  go_enter Try.func36, Try.ntmps36
  go_wp2_with fail
  refine (h1 _).mono ?_
  rintro e w1 ⟨rfl, rfl⟩
  go_wp2_with fail
  refine (h2 _).mono ?_
  rintro e w1 ⟨rfl, rfl⟩
  go_wp2_with fail
  go_ret
  exact ⟨rfl, rfl⟩
end Go.Proofs.Ytlhmdbloddpfbaa
