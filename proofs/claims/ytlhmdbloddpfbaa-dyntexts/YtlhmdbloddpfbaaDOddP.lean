/- dyn.oddOf of an object, walked. -/
import Derived.Test.YtlhmdbloddpfbaaDOddO
set_option linter.unusedVariables false
set_option linter.unusedSimpArgs false
namespace Go.Proofs.Ytlhmdbloddpfbaa
open Go.RowKit
/-- What the loop's statement loads. -/
abbrev SK (qb qo : Nat) (ad : Addr) (i n c : Nat) (key : ByteArray) (w' : World) : Prop := w'.cell? ⟨qb, qo + 4, none⟩ = some (.slice (some ad) n c) ∧ w'.cell? (ad.add (i * 6)) = some (.string key)
theorem SK.blk {qb qo : Nat} {ad : Addr} {i n c : Nat} {key : ByteArray} {w w' : World} (h : SK qb qo ad i n c key w) (h1 : w'.heap[qb]? = w.heap[qb]?) (h2 : w'.heap[ad.block]? = w.heap[ad.block]?) : SK qb qo ad i n c key w' :=
  ⟨(World.cell?_of_block (a := ⟨qb, qo + 4, none⟩) h1).trans h.1, (World.cell?_of_block (a := ad.add (i * 6)) (by rw [adb]; exact h2)).trans h.2⟩
set_option maxHeartbeats 2000000 in
set_option maxRecDepth 100000 in
theorem odd_5 (n c : Nat) (ks : List ByteArray) (F : Option Addr) (q : Addr) (w : World) (hn : n ≤ 1000) (hkn : ks.length = n) (hks : ∀ x ∈ ks, x.size ≤ 500) (hA : KeyRow w F ks) (h0 : w.cell? q = some (.int .i64 5)) (h4 : w.cell? ⟨q.block, q.off + 4, none⟩ = some (.slice F n c)) :
    Calls Try.prog 72 #[.pointer (some q)] w fun e w' => OddO n ks F w e w' := by
  have hq : q.block < w.heap.size := World.block_lt_of_cell? w _ h0
  have hmk := run_make_row' (P := Try.prog) 109 82 (.pointer none) 8 Try.underlying109 infoP rfl .i64 .i64 n (by omega) (by omega)
  have hmg := run_make_mem n hn
  have d0 : w.drew.cell? ⟨q.block, q.off + 4, none⟩ = some (.slice F n c) := h4
  go_enter Try.func72, Try.ntmps72
  go_wp2_with fail
  go_cut [6, 7] from 72 to 83 (fun p6 p7 wc => ∃ g I, p6 = .slice (some ⟨g, 0, none⟩) n n ∧ p7 = .slice (some ⟨I, 0, none⟩) n n ∧ Mk2 w n ks F g I 0 wc)
  case first =>
    go_region_held3 (fun w' => w'.cell? ⟨q.block, q.off + 4, none⟩ = some (.slice F n c))
      (first
        | go_keep
        | (exact (World.cell?_alloc_past _ _ _ hq).trans d0)
        | (exact (World.cell?_alloc_past _ _ _ (by simp; omega)).trans ((World.cell?_alloc_past _ _ _ hq).trans d0))
        | skip)
      (first | fail)
    all_goals go_wp2_with fail
    all_goals go_meet
    all_goals first
      | exact ⟨_, _, rfl, rfl, Mk2.drew (Mk2.ofA w.drew n ks F)⟩
      | exact ⟨_, _, rfl, rfl, Mk2.drew (Mk2.ofB w.drew n ks F)⟩
  case rest =>
    obtain ⟨g, I, rfl, rfl, hM⟩ := hcut
    have HM := Lib.hid hM
    have e4 : wc.cell? ⟨q.block, q.off + 4, none⟩ = some (.slice F n c) := (hM.bel.cell (p := ⟨q.block, q.off + 4, none⟩) hq).trans h4
    clear hM d0
    go_wp2_with fail
    clear e4
    go_loopw [89] (fun iv wr => ∃ (i : Nat), iv = .int .i64 i ∧ i ≤ n ∧ Mk2 w n ks F g I i wr) (fun iv _ => n - (intOf iv).toNat)
    case atStart => exact ⟨0, rfl, Nat.zero_le _, HM.out⟩
    case round =>
      obtain ⟨i, rfl, hi, hM⟩ := hrel
      have HR := Lib.hid hM
      have l4 : wr.cell? ⟨q.block, q.off + 4, none⟩ = some (.slice F n c) := (hM.bel.cell (p := ⟨q.block, q.off + 4, none⟩) hq).trans h4
      have hne := hM.ne
      have hlg := hM.lg
      have hlI := hM.lI
      have hgl := hM.rg.lt
      have hIl := hM.rI.lt
      clear hM h0
      by_cases hlt : i < n
      · obtain ⟨key, hkey⟩ : ∃ key, ks[i]? = some key := ⟨ks[i], List.getElem?_eq_getElem (by omega)⟩
        obtain ⟨ad, u, rfl, hbl, hcell⟩ := hA i key hkey
        rw [adb] at hbl
        have l6 : wr.cell? (ad.add (i * 6)) = some (.string key) := (HR.out.bel.cell (by rw [adb]; exact hbl)).trans hcell.1
        have HSK := Lib.hid (show SK q.block q.off ad i n c key wr.drew from ⟨l4, l6⟩)
        have hsz := HR.out.bel.size
        have n1 : q.block ≠ g := by omega
        have n2 : ad.block ≠ g := by omega
        have n3 : q.block ≠ I := by omega
        have n4 : ad.block ≠ I := by omega
        have HS1 := Lib.hid (show ∀ w1, Below wr.drew.heap.size wr.drew w1 → SK q.block q.off ad i n c key w1 from fun w1 hb => SK.blk HSK.out (hb.block _ (Nat.lt_of_lt_of_le hq hsz)) (hb.block _ (Nat.lt_of_lt_of_le hbl hsz)))
        have HS2 := Lib.hid (show ∀ w1 v, Below wr.drew.heap.size wr.drew w1 → SK q.block q.off ad i n c key (w1.setCell ⟨g, i * 2, none⟩ v) from fun w1 v hb => SK.blk (HS1.out w1 hb) (Below.heap_setCell _ _ _ _ n1) (Below.heap_setCell _ _ _ _ n2))
        have HS3 := Lib.hid (show ∀ w1 v v', Below wr.drew.heap.size wr.drew w1 → SK q.block q.off ad i n c key ((w1.setCell ⟨g, i * 2, none⟩ v).setCell ⟨I, i, none⟩ v') from fun w1 v v' hb => SK.blk (HS2.out w1 v hb) (Below.heap_setCell _ _ _ _ n3) (Below.heap_setCell _ _ _ _ n4))
        have HCL := Lib.hid (clone_any key (by have := hks key (List.mem_of_getElem? hkey); omega) wr.drew)
        have HG := Lib.hid (show ∀ w1, Below wr.drew.heap.size wr.drew w1 → w1.rowIs g 92 (n * 2) (memUp ks i) ∧ w1.rowIs I 82 n (ptfUp (some ad) i) from fun w1 hb => ⟨rowIs_below HR.out.rg.drew hb hgl, rowIs_below HR.out.rI.drew hb hIl⟩)
        have HK := Lib.hid hkey
        have hi2 : i * 2 < n * 2 := by omega
        clear hcell hkey hA
        go_wp2_with fail
        go_region_held3 (fun w' => w'.cell? ⟨q.block, q.off + 4, none⟩ = some (.slice (some ad) n c) ∧ w'.cell? (ad.add (i * 6)) = some (.string key))
          (first
            | (with_reducible exact HS3.out _ _ _ hb1)
            | (with_reducible exact HS2.out _ _ hb1)
            | (have h7 := HS1.out _ hb1; with_reducible exact h7)
            | (have h7 := HSK.out; with_reducible exact h7)
            | skip)
          (first
            | (go_at_call 63; refine HCL.out.mono ?_; rintro e w1 ⟨rfl, hb1⟩; have c1 := (HG.out _ hb1).1.cell hi2; have f1 := (HG.out _ hb1).1.frozen (i * 2); have c2 := (HG.out _ hb1).2.cell hlt; have f2 := (HG.out _ hb1).2.frozen i)
            | fail)
        all_goals go_wp2_with fail
        all_goals exact ⟨⟨i + 1, by go_num, by omega, HR.out.step (((Below.refl _ _).drew).trans hb1) HK.out rfl hlt⟩, by simp [intOf]; omega⟩
      · have hie : i = n := by omega
        subst hie
        clear l4 hA h4
        go_wp2_with fail
        go_ret2
        exact ⟨g, I, rfl, hne, hlg, hlI, HR.out.rg, HR.out.rI.congr (fun j hj => by unfold ptfUp; rw [if_pos hj]), HR.out.bel⟩
end Go.Proofs.Ytlhmdbloddpfbaa
