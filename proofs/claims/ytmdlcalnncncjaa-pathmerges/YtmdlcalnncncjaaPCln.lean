/- slices.Clone of values and of pairs. -/
import Derived.Test.YtmdlcalnncncjaaPFindR
import Derived.Maps.AppendAt
import Derived.Lib.SliceRun
set_option linter.unusedVariables false
set_option linter.unusedSimpArgs false
namespace Go.Proofs.Ytmdlcalnncncjaa
open Go.RowKit
theorem row_news {α : Type} {w : World} {ad : Addr} (fn : α → List Value) (size : Nat) (hs : ∀ u, (fn u).length = size) : ∀ (us : List α) (k : Nat), (∀ (i : Nat) u, us[i]? = some u → ∀ (j : Nat) c, (fn u)[j]? = some c → w.cell? (ad.add (k + (i * size + j))) = some c) → ∀ (j : Nat) c, (us.flatMap fn)[j]? = some c → w.cell? (ad.add (k + j)) = some c
  | [], k, _, j, c, h => by simp at h
  | u :: us, k, H, j, c, h => by
    rw [List.flatMap_cons] at h
    by_cases hj : j < size
    · rw [List.getElem?_append_left (by rw [hs]; exact hj)] at h
      have := H 0 u rfl j c h
      rwa [Nat.zero_mul, Nat.zero_add] at this
    · rw [List.getElem?_append_right (by rw [hs]; omega), hs] at h
      have := row_news fn size hs us (k + size) (fun i v hv j c hc => by
        have h2 := H (i + 1) v (by simpa using hv) j c hc
        rw [show k + ((i + 1) * size + j) = k + size + (i * size + j) by rw [Nat.add_mul]; omega] at h2
        exact h2) (j - size) c h
      rwa [show k + size + (j - size) = k + j by omega] at this
theorem own_empty {w : World} {base : Nat} {e : TypeId} {size : Nat} (hb : base ≤ w.heap.size) : (w.alloc (.cells #[] e)).ownsRow base e size (.slice (some ⟨w.heap.size, 0, none⟩) 0 0) 0 [] :=
  ⟨by simp, .inr ⟨w.heap.size, 0, #[], rfl, hb, heap_alloc_new w _, Nat.le_refl _, by decide, by simp, by simp⟩⟩
/-- What Clone answers. -/
def ClnR (t : TypeId) (size : Nat) (n : Nat) (xs : List Value) (w : World) (e : Ending) (w' : World) : Prop := ∃ g cap, e = .returned (.slice (some ⟨g, 0, none⟩) n cap) ∧ w'.ownsRow w.heap.size t size (.slice (some ⟨g, 0, none⟩) n cap) n xs ∧ Below w.heap.size w w'
set_option maxHeartbeats 1000000 in
set_option maxRecDepth 100000 in
theorem cloneV (us : List Hd) (ad : Addr) (n c : Nat) (w : World) (hn : n = us.length) (h0 : 0 < n) (h1 : n ≤ 1000) (H : ∀ (i : Nat) u, us[i]? = some u → ∀ (j : Nat) c, u.cells[j]? = some c → w.cell? (ad.add (i * 5 + j)) = some c) :
    Calls Try.prog 125 #[.slice (some ad) n c] w fun e w' => ClnR 25 5 n (us.flatMap Hd.cells) w e w' := by
  obtain ⟨i0, hi0, hz0, hz1, hz2⟩ := info_parts info25
  have hln : (us.flatMap Hd.cells).length = n * 5 := by
    rw [hn]
    clear H hn
    induction us with
    | nil => rfl
    | cons u us ih => rw [List.flatMap_cons, List.length_append, ih, cells_len, List.length_cons]; omega
  have hone : ∀ u ∈ us.flatMap Hd.cells, u.oneCell' = true := by
    intro u hu
    obtain ⟨v, _, hv⟩ := List.mem_flatMap.1 hu
    simp only [Hd.cells, List.mem_cons, List.not_mem_nil, or_false] at hv
    rcases hv with rfl | rfl | rfl | rfl | rfl <;> rfl
  have hnews : ∀ (o : Obj) (j : Nat) u, (us.flatMap Hd.cells)[j]? = some u → (w.alloc o).cell? (ad.add j) = some u := fun o j u hu => by
    have h2 := row_news (w := w) (ad := ad) Hd.cells 5 cells_len us 0 (fun i v hv j c hc => by rw [Nat.zero_add]; exact H i v hv j c hc) j u hu
    rw [Nat.zero_add] at h2
    rw [World.cell?_alloc_old _ _ _ (Nat.ne_of_lt (World.block_lt_of_cell? w _ h2))]
    exact h2
  have HLN := Lib.hid hln
  have HON := Lib.hid hone
  have HNE := Lib.hid hnews
  have HOE := Lib.hid (own_empty (w := w) (base := w.heap.size) (e := 25) (size := 5) (Nat.le_refl _))
  have K3 := Lib.hid (show 0 + n ≤ maxLen by unfold maxLen; omega)
  have K4 := Lib.hid (show (0 + n) * 80 ≤ 140737488355328 by omega)
  clear hln hone hnews H hn
  have hEq : (binOp .eql 22 (.slice (some ad) n c) (.slice none 0 0)).run Try.prog w = .ok (.bool false) w := Lib.run_eql_slice_nil w 22 _ (some ad) n c 0 0 Try.underlying22
  go_enter Try.func125, Try.ntmps125
  go_wp2_with (at_builtin; refine wpList_append_lies _ rfl _ _ 22 rfl w.heap.size 25 i0 _ 5 80 Try.underlying22 hi0 hz0 hz1 hz2 rfl (by decide) (.slice (some ⟨w.heap.size, 0, none⟩) 0 0) 0 [] rfl HOE.out ad n c (us.flatMap Hd.cells) rfl HLN.out (HNE.out _) HON.out h0 K3.out K4.out (by simp) _ rfl ?_; intro g cap w3 hown3 hgrow3 hat3 hlt3)
  go_ret
  refine ⟨g, cap, rfl, ?_, ?_⟩
  · rw [Nat.zero_add] at hown3
    simpa using hown3
  · exact ((one_alloc w _)).grown hgrow3 (by simp) (fun k hk => by simp [Value.ownBlock] at hk; omega)
set_option maxHeartbeats 1000000 in
set_option maxRecDepth 100000 in
theorem cloneF (us : List (ByteArray × Hd)) (ad : Addr) (n c : Nat) (w : World) (hn : n = us.length) (h0 : 0 < n) (h1 : n ≤ 1000) (H : ∀ (i : Nat) u, us[i]? = some u → ∀ (j : Nat) c, (pcells u)[j]? = some c → w.cell? (ad.add (i * 6 + j)) = some c) :
    Calls Try.prog 126 #[.slice (some ad) n c] w fun e w' => ClnR 36 6 n (us.flatMap pcells) w e w' := by
  obtain ⟨i0, hi0, hz0, hz1, hz2⟩ := info_parts info36
  have hln : (us.flatMap pcells).length = n * 6 := by
    rw [hn]
    clear H hn
    induction us with
    | nil => rfl
    | cons u us ih => rw [List.flatMap_cons, List.length_append, ih, pcells_len, List.length_cons]; omega
  have hone : ∀ u ∈ us.flatMap pcells, u.oneCell' = true := by
    intro u hu
    obtain ⟨v, _, hv⟩ := List.mem_flatMap.1 hu
    simp only [pcells, Hd.cells, List.mem_cons, List.not_mem_nil, or_false] at hv
    rcases hv with rfl | rfl | rfl | rfl | rfl | rfl <;> rfl
  have hnews : ∀ (o : Obj) (j : Nat) u, (us.flatMap pcells)[j]? = some u → (w.alloc o).cell? (ad.add j) = some u := fun o j u hu => by
    have h2 := row_news (w := w) (ad := ad) pcells 6 pcells_len us 0 (fun i v hv j c hc => by rw [Nat.zero_add]; exact H i v hv j c hc) j u hu
    rw [Nat.zero_add] at h2
    rw [World.cell?_alloc_old _ _ _ (Nat.ne_of_lt (World.block_lt_of_cell? w _ h2))]
    exact h2
  have HLN := Lib.hid hln
  have HON := Lib.hid hone
  have HNE := Lib.hid hnews
  have HOE := Lib.hid (own_empty (w := w) (base := w.heap.size) (e := 36) (size := 6) (Nat.le_refl _))
  have K3 := Lib.hid (show 0 + n ≤ maxLen by unfold maxLen; omega)
  have K4 := Lib.hid (show (0 + n) * 96 ≤ 140737488355328 by omega)
  clear hln hone hnews H hn
  have hEq : (binOp .eql 23 (.slice (some ad) n c) (.slice none 0 0)).run Try.prog w = .ok (.bool false) w := Lib.run_eql_slice_nil w 23 _ (some ad) n c 0 0 Try.underlying23
  go_enter Try.func126, Try.ntmps126
  go_wp2_with (at_builtin; refine wpList_append_lies _ rfl _ _ 23 rfl w.heap.size 36 i0 _ 6 96 Try.underlying23 hi0 hz0 hz1 hz2 rfl (by decide) (.slice (some ⟨w.heap.size, 0, none⟩) 0 0) 0 [] rfl HOE.out ad n c (us.flatMap pcells) rfl HLN.out (HNE.out _) HON.out h0 K3.out K4.out (by simp) _ rfl ?_; intro g cap w3 hown3 hgrow3 hat3 hlt3)
  go_ret
  refine ⟨g, cap, rfl, ?_, ?_⟩
  · rw [Nat.zero_add] at hown3
    simpa using hown3
  · exact ((one_alloc w _)).grown hgrow3 (by simp) (fun k hk => by simp [Value.ownBlock] at hk; omega)
end Go.Proofs.Ytmdlcalnncncjaa
