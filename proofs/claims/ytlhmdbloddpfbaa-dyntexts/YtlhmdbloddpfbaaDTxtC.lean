/- dyn.Texts of whatever Odd answers; the reference's Texts. -/
import Derived.Test.YtlhmdbloddpfbaaDTxtB
set_option linter.unusedVariables false
set_option linter.unusedSimpArgs false
namespace Go.Proofs.Ytlhmdbloddpfbaa
open Go.RowKit
theorem RdS.go {w w' : World} {A : Option Addr} {ss : List ByteArray} (h : RdS w A ss) (hb : Below w.heap.size w w') : RdS w' A ss := fun i s hi => by
  obtain ⟨ad, h1, h2, h3⟩ := h i s hi
  exact ⟨ad, h1, by have := hb.size; omega, (hb.cell (by rw [adb]; exact h2)).trans h3⟩
theorem txt_any (a : Va) (x : Value) (S : Nat → Prop) (w : World) (h : Ls w S a x ∨ (x = .nilIface ∧ a.Deep)) (hsh : a.Sh) (hcn : a.cnt ≤ 1000) : Calls Try.prog 45 #[x] w fun e w' => TxtR a w e w' := by
  rcases h with h | ⟨rfl, hd⟩
  · cases h with
    | bool h => exact txt_bad _ _ w ⟨_, fun W => tb_4_L _ W⟩ (by simp [Va.TxtOk])
    | int => exact txt_bad _ _ w ⟨_, fun W => tb_2_L _ W⟩ (by simp [Va.TxtOk])
    | str => exact txt_bad _ _ w ⟨_, fun W => tb_9_L _ W⟩ (by simp [Va.TxtOk])
    | list xs hn hg hs0 row el =>
      rename_i n1 s1 l1 ks1 f1 g1
      simp only [Va.cnt] at hcn
      have hl1 := len_le_cntL l1
      exact txt_list _ _ _ _ _ _ xs S w hsh (by omega) hn hg row el
    | obj xs hn hg hs0 key row el => exact txt_bad _ _ w ⟨_, fun W => tb_O_L _ W⟩ (by simp [Va.TxtOk])
    | oint => exact txt_bad _ _ w ⟨_, fun W => tb_3_L _ W⟩ (by simp [Va.TxtOk])
    | flt v => exact txt_bad _ _ w ⟨_, fun W => tb_Fl_L _ W⟩ (by simp [Va.TxtOk])
    | lnil => exact txt_lnil _ w (by simp [Va.TxtOk]) (by simp [Va.txts])
    | onil => exact txt_bad _ _ w ⟨_, fun W => tb_O_L _ W⟩ (by simp [Va.TxtOk])
    | none h => exact txt_bad _ _ w ⟨_, fun W => tb_n_L W⟩ (by simp [Va.TxtOk, h.2.2.2.1, h.2.2.2.2.2.2.2.1])
  · exact txt_bad _ _ w ⟨_, fun W => tb_n_L W⟩ (deep_not hd)
/-- What the reference answers. -/
def RefT (a : Va) (w : World) (e : Ending) (w' : World) : Prop := ((∃ A c, e = .returned (.tuple #[.slice A a.txts.length c, .bool true]) ∧ a.TxtOk ∧ RdS w' A a.txts) ∨ (e = .returned (.tuple #[.slice none 0 0, .bool false]) ∧ ¬ a.TxtOk)) ∧ Below w.heap.size w w'
/-- The reference's loop. -/
structure RfL (w : World) (h : Hd) (l : List Va) (i : Nat) (A' : Option Addr) (c' : Nat) (wr : World) : Prop where
  hi : i ≤ l.length
  all : ∀ x ∈ l.take i, x.isS
  box : Bx wr w.heap.size h
  own : wr.ownsRow (w.heap.size + 1) 9 1 (.slice A' i c') i ((l.take i).map fun x => Value.string x.str)
  bel : Below w.heap.size w wr
theorem RfL.step {w wr w3 : World} {h : Hd} {l : List Va} {i g cap : Nat} {A' : Option Addr} {c' : Nat} {x : Va} {o : Obj} (H : RfL w h l i A' c' wr) (hx : l[i]? = some x) (hs : x.isS) (hown3 : w3.ownsRow (w.heap.size + 1) 9 1 (.slice (some ⟨g, 0, none⟩) (i + 1) cap) (i + 1) (((l.take i).map fun x => Value.string x.str) ++ [.string x.str])) (hgrow : (wr.alloc o).grownBy w3 (Value.slice A' i c').ownBlock) :
    RfL w h l (i + 1) (some ⟨g, 0, none⟩) cap w3 := by
  have hil : i < l.length := (List.getElem?_eq_some_iff.1 hx).1
  have hrow : ∀ b, (Value.slice A' i c').ownBlock = some b → w.heap.size + 1 ≤ b ∧ b < wr.heap.size := fun b hb => own_lo H.own hb
  have hB := H.box.1
  have hg3 := hgrow.size
  simp only [World.size_alloc] at hg3
  have blk : ∀ b, b ≤ w.heap.size → w3.heap[b]? = wr.heap[b]? := fun b h1 => by
    rw [hgrow.block b (by simp; omega) (fun e => by have := hrow b e.symm; omega), Below.heap_alloc _ _ _ (by omega)]
  refine ⟨by omega, fun y hy => ?_, ⟨by omega, fun j c hc => ?_⟩, ?_, ⟨hgrow.os.trans H.bel.os, hgrow.tape.trans H.bel.tape, hgrow.output.trans H.bel.output, by have := H.bel.size; omega, fun k hk => ?_⟩⟩
  · rw [take_next hx] at hy
    rcases List.mem_append.1 hy with hy | hy
    · exact H.all y hy
    · simp at hy; subst hy; exact hs
  · exact (World.cell?_of_block (a := ⟨w.heap.size, j, none⟩) (blk _ (Nat.le_refl _))).trans (H.box.2 j c hc)
  · rw [take_next hx, List.map_append]
    exact hown3
  · rw [blk k (by omega)]
    exact H.bel.block k hk
theorem rds_of {w : World} {base : Nat} {l : List Va} {A' : Option Addr} {c' : Nat} (ho : w.ownsRow base 9 1 (.slice A' l.length c') l.length (l.map fun x => Value.string x.str)) : RdS w A' (l.map Va.str) := fun i s h => by
  have h' : (l.map fun x => Value.string x.str)[i]? = some (.string s) := by
    simp only [List.getElem?_map, Option.map_eq_some_iff] at h ⊢
    obtain ⟨y, hy, rfl⟩ := h
    exact ⟨y, hy, rfl⟩
  rcases ho.2 with ⟨_, h0⟩ | ⟨g', cap', cur, hv, hgb, hh, _⟩
  · have := (List.getElem?_eq_some_iff.1 h').1
    simp at this
    omega
  · have eA : A' = some ⟨g', 0, none⟩ := by injection hv
    exact ⟨⟨g', 0, none⟩, eA, (Array.getElem?_eq_some_iff.1 hh).1, ho.cells (g := g') (by rw [eA]; rfl) i _ h'⟩
set_option maxHeartbeats 2000000 in
set_option maxRecDepth 100000 in
theorem reft_any (a : Va) (S : Nat → Prop) (h : Hd) (w : World) (H : Lies w S a h) (hcn : a.cnt ≤ 1000) : Calls Try.prog 46 #[h.val] w fun e w' => RefT a w e w' := by
  obtain ⟨k, n, s, l, ks, f⟩ := a
  have Hop := H.op
  simp only [Lies] at H
  obtain ⟨⟨e1, e2, e3, e4, e5, e6⟩, -, -, -⟩ := H
  simp only [Va.cnt] at hcn
  have hl1 := len_le_cntL l
  have hb0 : Below w.heap.size w (w.alloc (Obj.cells #[.int .i64 h.k, .int .i64 h.n, .string h.s, .slice h.A h.la h.lc, .slice h.F h.lf h.fc] 25)) := (Below.refl _ _).alloc (Nat.le_refl _) _
  have HB0 := Lib.hid hb0
  have HBX := Lib.hid (Bx.start w h 25)
  have HOP := Lib.hid Hop
  obtain ⟨i0, hi0, hz0, hz1, hz2⟩ := info_parts info9
  obtain ⟨hk, hnn, hs, A, la, lc, F, lf, fc⟩ := h
  simp only at e1 e4
  subst e1 e4
  clear hb0 Hop e2 e3 e5 e6
  unfold Hd.val
  simp only
  by_cases h11 : hk = 11
  · subst h11
    go_enter Try.func46, Try.ntmps46
    go_wp2
    go_ret2
    exact ⟨.inl ⟨none, 0, rfl, .inl rfl, fun i s h => by simp [Va.txts] at h⟩, HB0.out⟩
  by_cases h4 : hk = 4
  · subst h4
    go_enter Try.func46, Try.ntmps46
    go_wp2_with fail
    go_loopw [4, 5] (fun v4 v5 wr => ∃ (i : Nat) (A' : Option Addr) (c' : Nat), v4 = .slice A' i c' ∧ v5 = .int .i64 i ∧ RfL w ⟨4, hnn, hs, A, l.length, lc, F, lf, fc⟩ l i A' c' wr) (fun v4 v5 _ => l.length - (intOf v5).toNat)
    case atStart => exact ⟨0, none, 0, rfl, rfl, ⟨Nat.zero_le _, by simp, HBX.out, by simpa using World.ownsRow_nil _ _ _ _, HB0.out⟩⟩
    case round =>
      obtain ⟨i, A', c', rfl, rfl, hL⟩ := hrel
      have HL := Lib.hid hL
      have hi := hL.hi
      have b3 := hL.box.2 3 _ rfl
      have hbl := hL.box.1
      clear hL
      by_cases hlt : i < l.length
      · obtain ⟨ad, u, rfl, _, hab, hLu, hat⟩ := HOP.out.L i _ (List.getElem?_eq_getElem hlt)
        obtain ⟨k0, k1, k2, k3, k4⟩ := hat.below HL.out.bel hab
        have hue : u.k = 3 ↔ l[i].isS := by
          revert hLu
          generalize l[i] = y
          intro hLu
          obtain ⟨k1, n1, s1, l1, ks1, f1⟩ := y
          simp only [Lies] at hLu
          rw [hLu.1.1]
          exact Iff.rfl
        have hus : u.s = l[i].str := by
          revert hLu
          generalize l[i] = y
          intro hLu
          obtain ⟨k1, n1, s1, l1, ks1, f1⟩ := y
          simp only [Lies] at hLu
          exact hLu.1.2.2.1
        have HUE := Lib.hid hue
        have HUS := Lib.hid hus
        have HX := Lib.hid (List.getElem?_eq_getElem hlt)
        clear hLu hue hus hat k1 k3 k4
        by_cases h3 : u.k = 3
        · have HIS := Lib.hid (HUE.out.1 h3)
          rw [h3] at k0
          clear h3 HUE
          have K3 := Lib.hid (show i + 1 ≤ maxLen by unfold maxLen; omega)
          have K4 := Lib.hid (show (i + 1) * 16 ≤ 140737488355328 by omega)
          have K5 := Lib.hid (show ∀ o : Obj, w.heap.size + 1 ≤ (wr.alloc o).heap.size from fun o => by simp; omega)
          go_wp2_with (at_builtin; refine wpList_append_own_at _ rfl _ _ 44 rfl (w.heap.size + 1) 9 i0 _ 1 16 Try.underlying44 hi0 hz0 hz1 hz2 rfl (by decide) (.slice A' i c') i ((l.take i).map fun x => Value.string x.str) rfl (HL.out.own.alloc _) ⟨wr.heap.size, 0, none⟩ 1 1 [.string u.s] rfl rfl (World.news_of_block (heap_alloc_new wr _)) (by simp [Value.oneCell']) K3.out K4.out (K5.out _) ?_; intro v6 w6 hown6 hgrow6 hnil6 hat6; obtain ⟨g6, cap6, hv6, -, -⟩ := hown6.form (Nat.succ_pos _); subst hv6; have HO6 := Lib.hid hown6; have HG6 := Lib.hid hgrow6; clear hown6 hgrow6 hnil6 hat6)
          have ho := HO6.out
          rw [HUS.out] at ho
          exact ⟨⟨i + 1, _, _, rfl, by go_num, HL.out.step HX.out HIS.out ho HG6.out⟩, by simp [intOf]; omega⟩
        · have HNO := Lib.hid (show ¬ (Va.mk 4 n s l ks f).TxtOk from fun q => by
            rcases q with q | ⟨_, q⟩
            · cases q
            · exact h3 (HUE.out.2 (q _ (List.getElem_mem hlt))))
          have d3 : (u.k != 3) = true := by simp [h3]
          have d4 : (u.k == 3) = false := by simp [h3]
          clear HUE h3
          go_wp2_with fail
          go_ret2
          exact ⟨.inr ⟨rfl, HNO.out⟩, HL.out.bel⟩
      · have hie : i = l.length := by omega
        subst hie
        go_wp2_with fail
        go_ret2
        have ho := HL.out.own
        rw [List.take_of_length_le (Nat.le_refl _)] at ho
        refine ⟨.inl ⟨A', c', by simp [Va.txts], .inr ⟨rfl, fun x hx => HL.out.all x (by rw [List.take_of_length_le (Nat.le_refl _)]; exact hx)⟩, ?_⟩, HL.out.bel⟩
        have := rds_of ho
        simpa [Va.txts] using this
  · have d1 : (hk != 4) = true := by simp [h4]
    have d2 : (hk != 11) = true := by simp [h11]
    have d3 : (hk == 4) = false := by simp [h4]
    have d4 : (hk == 11) = false := by simp [h11]
    have HNO := Lib.hid (show ¬ (Va.mk hk n s l ks f).TxtOk by simp [Va.TxtOk, h4, h11])
    clear h4 h11
    go_enter Try.func46, Try.ntmps46
    go_wp2
    go_ret2
    exact ⟨.inr ⟨rfl, HNO.out⟩, HB0.out⟩
end Go.Proofs.Ytlhmdbloddpfbaa
