/- dyn.Texts of lists. -/
import Derived.Test.YtlhmdbloddpfbaaDTxtA
import Derived.Deep.RegionHeld3
import Derived.Deep.RegionWith
import Derived.RegionDies
set_option linter.unusedVariables false
set_option linter.unusedSimpArgs false
namespace Go.Proofs.Ytlhmdbloddpfbaa
open Go.RowKit
/-- The load of the texts so far, under a name. -/
def ldT : Op := Op.load 44 (Operand.tmp 2)
/-- The loop over the elements. -/
structure TxL (w : World) (l : List Va) (i : Nat) (A' : Option Addr) (c' : Nat) (wr : World) : Prop where
  hi : i ≤ l.length
  all : ∀ x ∈ l.take i, x.isS
  T : wr.rowIs w.heap.size 44 1 (fun _ => .slice A' i c')
  E : wr.rowIs (w.heap.size + 1) 38 1 (fun _ => .int .i64 0)
  own : wr.ownsRow (w.heap.size + 2) 9 1 (.slice A' i c') i ((l.take i).map fun x => Value.string x.str)
  bel : Below w.heap.size w wr
theorem TxL.start (w : World) (l : List Va) : TxL w l 0 none 0 ((w.alloc (Obj.cells #[.slice none 0 0] 44)).alloc (Obj.cells #[.int .i64 0] 38)) := by
  refine ⟨Nat.zero_le _, by simp, ?_, ?_, by simpa using World.ownsRow_nil _ _ _ _, ((Below.refl _ _).alloc (Nat.le_refl _) _).alloc (by simp) _⟩
  · exact (show (w.alloc (Obj.cells #[.slice none 0 0] 44)).rowIs w.heap.size 44 1 (fun _ => .slice none 0 0) from ⟨_, heap_alloc_new _ _, rfl, fun i hi => by obtain rfl : i = 0 := (by omega); rfl⟩).alloc _
  · have h := heap_alloc_new (w.alloc (Obj.cells #[.slice none 0 0] 44)) (Obj.cells #[.int .i64 0] 38)
    rw [World.size_alloc] at h
    exact ⟨_, h, rfl, fun i hi => by obtain rfl : i = 0 := (by omega); rfl⟩
theorem TxL.step {w wr w2 w3 : World} {l : List Va} {i g cap : Nat} {A' : Option Addr} {c' : Nat} {x : Va} {o : Obj} (H : TxL w l i A' c' wr) (hx : l[i]? = some x) (hs : x.isS) (hb : Below wr.heap.size wr w2) (hown3 : w3.ownsRow (w.heap.size + 2) 9 1 (.slice (some ⟨g, 0, none⟩) (i + 1) cap) (i + 1) (((l.take i).map fun x => Value.string x.str) ++ [.string x.str])) (hgrow : (w2.alloc o).grownBy w3 (Value.slice A' i c').ownBlock) (hat : (Value.slice A' i c').ownBlock = some g ∨ g = w2.heap.size + 1) :
    TxL w l (i + 1) (some ⟨g, 0, none⟩) cap (w3.setCell ⟨w.heap.size, 0, none⟩ (.slice (some ⟨g, 0, none⟩) (i + 1) cap)) := by
  have hil : i < l.length := (List.getElem?_eq_some_iff.1 hx).1
  have hrow : ∀ b, (Value.slice A' i c').ownBlock = some b → w.heap.size + 2 ≤ b ∧ b < wr.heap.size := fun b hb => own_lo H.own hb
  have hT := H.T.lt
  have hE := H.E.lt
  have hs2 := hb.size
  have hg3 := hgrow.size
  simp only [World.size_alloc] at hg3
  have blk : ∀ b, b < wr.heap.size → (Value.slice A' i c').ownBlock ≠ some b → w3.heap[b]? = wr.heap[b]? := fun b h1 h2 => by
    rw [hgrow.block b (by simp; omega) (fun e => h2 e.symm), Below.heap_alloc _ _ _ (by omega), hb.block b h1]
  have nT : (Value.slice A' i c').ownBlock ≠ some w.heap.size := fun e => by have := hrow _ e; omega
  have nE : (Value.slice A' i c').ownBlock ≠ some (w.heap.size + 1) := fun e => by have := hrow _ e; omega
  have hgT : g ≠ w.heap.size := by
    rcases hat with e | e
    · have := hrow g e; omega
    · omega
  refine ⟨by omega, fun y hy => ?_, ?_, ?_, ?_, ?_⟩
  · rw [take_next hx] at hy
    rcases List.mem_append.1 hy with hy | hy
    · exact H.all y hy
    · simp at hy; subst hy; exact hs
  · refine ((rowIs_below' (B := 0) H.T (blk _ hT nT)).set 0 _).congr (fun j hj => ?_)
    obtain rfl : j = 0 := by omega
    rfl
  · exact (rowIs_below' (B := 0) H.E (blk _ hE nE)).setOther (a := ⟨w.heap.size, 0, none⟩) (by show w.heap.size + 1 ≠ w.heap.size; omega) _
  · rw [take_next hx, List.map_append]
    refine own_block (w := w3) hown3 fun b hb2 => Below.heap_setCell _ _ _ _ ?_
    simp only [Value.ownBlock, Option.some.injEq] at hb2
    show b ≠ w.heap.size
    omega
  · have hbel : Below w.heap.size w w3 := ⟨hgrow.os.trans (hb.os.trans H.bel.os), hgrow.tape.trans (hb.tape.trans H.bel.tape), hgrow.output.trans (hb.output.trans H.bel.output), by have := H.bel.size; omega, fun k hk => by
      rw [blk k (by have := H.bel.size; omega) (fun e => by have := hrow k e; omega)]
      exact H.bel.block k hk⟩
    exact hbel.setCell (Nat.le_refl _) _
set_option maxHeartbeats 1000000 in
set_option maxRecDepth 100000 in
theorem txt_lnil (a : Va) (w : World) (hok : a.TxtOk) (ht : a.txts = []) : Calls Try.prog 45 #[.iface 85 (.slice none 0 0)] w fun e w' => TxtR a w e w' := by
  have HN := Lib.hid hok
  have HT := Lib.hid ht
  clear hok ht
  have hmf : ∀ (fn : Fn) (first cap : Array Value) (w : World), (Instr.makeFunc fn first cap).run Try.prog w = .ok (.func fn first cap) w := fun _ _ _ _ => rfl
  go_enter_defers Try.func45, Try.ntmps45
  go_wp2
  refine wp_loop_rounds 1 ?_
  rw [rounds_succ]
  go_wp2
  refine leaves_cons (f := 78) (args := #[.pointer (some ⟨w.heap.size, 0, none⟩), .pointer (some ⟨w.heap.size + 1, 0, none⟩)]) (by simp) (by simp [go_sem]) ?_
  refine (catch_idle _ _ _).mono ?_
  rintro e u' w'' ⟨rfl, rfl, rfl⟩
  simp [Leaves, settle, results, Try.results45, go_sem]
  exact ⟨.inl ⟨none, 0, by rw [HT.out]; rfl, HN.out, fun i s h => by rw [HT.out] at h; simp at h⟩, ((Below.refl _ _).alloc (Nat.le_refl _) _).alloc (by simp) _⟩
set_option maxHeartbeats 4000000 in
set_option maxRecDepth 100000 in
theorem txt_list (n0 : Int) (s0 : ByteArray) (l : List Va) (ks : List ByteArray) (f : List Va) (g : Nat) (xs : List Value) (S : Nat → Prop) (w : World) (hsh : (Va.mk 4 n0 s0 l ks f).Sh) (hl : l.length ≤ 1000) (hn : xs.length = l.length) (hg : g < w.heap.size) (row : ∀ (i : Nat) x, xs[i]? = some x → w.cell? ⟨g, i, none⟩ = some x) (el : ∀ (i : Nat) y x, l[i]? = some y → xs[i]? = some x → Ls w S y x) :
    Calls Try.prog 45 #[.iface 85 (.slice (some ⟨g, 0, none⟩) l.length l.length)] w fun e w' => TxtR (.mk 4 n0 s0 l ks f) w e w' := by
  have HSL := Lib.hid (show ∀ x ∈ l, x.Sh from fun x hx => by simp only [Va.Sh] at hsh; exact ShL_mem hsh.2.1 hx)
  have HEL := Lib.hid el
  have HRW := Lib.hid row
  clear hsh el row
  have hmf : ∀ (fn : Fn) (first cap : Array Value) (w : World), (Instr.makeFunc fn first cap).run Try.prog w = .ok (.func fn first cap) w := fun _ _ _ _ => rfl
  obtain ⟨i0, hi0, hz0, hz1, hz2⟩ := info_parts info9
  go_enter_defers Try.func45, Try.ntmps45
  go_wp2_with fail
  go_loopw [10] (fun iv wr => ∃ (i : Nat) (A' : Option Addr) (c' : Nat), iv = .int .i64 i ∧ TxL w l i A' c' wr) (fun iv _ => l.length - (intOf iv).toNat)
  case atStart => exact ⟨0, none, 0, rfl, TxL.start w l⟩
  case round =>
    obtain ⟨i, A', c', rfl, hT⟩ := hrel
    have HT := Lib.hid hT
    have hi := hT.hi
    have hsz := hT.bel.size
    have hTl := hT.T.lt
    have hEl := hT.E.lt
    have cT : wr.cell? ⟨w.heap.size, 0, none⟩ = some (.slice A' i c') := hT.T.cell (show 0 < 1 by decide)
    have fT := hT.T.frozen 0
    have cE : wr.cell? ⟨w.heap.size + 1, 0, none⟩ = some (.int .i64 0) := hT.E.cell (show 0 < 1 by decide)
    have fE := hT.E.frozen 0
    clear hT
    by_cases hlt : i < l.length
    · obtain ⟨x, hx⟩ : ∃ x, xs[i]? = some x := ⟨xs[i]'(by omega), List.getElem?_eq_getElem (by omega)⟩
      have hcx : wr.cell? ⟨g, i, none⟩ = some x := (HT.out.bel.cell (p := ⟨g, i, none⟩) hg).trans (HRW.out i x hx)
      have hLx := HEL.out i _ x (List.getElem?_eq_getElem hlt) hx
      by_cases hs : l[i].isS
      · have hxe := hLx.isStr hs
        subst hxe
        have hsz5 : l[i].str.size ≤ 500 := by
          have := HSL.out _ (List.getElem_mem hlt)
          revert this
          generalize l[i] = y
          intro hy
          obtain ⟨k1, n1, s1, l1, ks1, f1⟩ := y
          simp only [Va.Sh] at hy
          exact hy.1
        have HS := Lib.hid hs
        have HX := Lib.hid (List.getElem?_eq_getElem hlt)
        generalize hse : l[i].str = s at hcx hsz5
        have HSE := Lib.hid hse
        have HE0 := Lib.hid cE
        have HCL := Lib.hid (clone_any s (by omega) wr.drew)
        have HOWN := Lib.hid (show ∀ w2, Below wr.drew.heap.size wr.drew w2 → w2.ownsRow (w.heap.size + 2) 9 1 (.slice A' i c') i ((l.take i).map fun x => Value.string x.str) from fun w2 hb => own_below (own_below HT.out.own ((Below.refl wr.heap.size wr).drew) (Nat.le_refl _)) hb (Nat.le_refl _))
        have hrow : ∀ b, (Value.slice A' i c').ownBlock = some b → w.heap.size + 2 ≤ b := fun b hb => (own_lo HT.out.own hb).1
        have HRT := Lib.hid (show some w.heap.size ≠ (Value.slice A' i c').ownBlock from fun e => by have := hrow _ e.symm; omega)
        have HRE := Lib.hid (show some (w.heap.size + 1) ≠ (Value.slice A' i c').ownBlock from fun e => by have := hrow _ e.symm; omega)
        have hbs : w.heap.size + 2 ≤ wr.drew.heap.size := by show w.heap.size + 2 ≤ wr.heap.size; omega
        clear hLx hs hx hse hrow fE cE
        go_wp2_with fail
        have hld : ldT = Op.load 44 (Operand.tmp 2) := rfl
        rw [show Op.load 44 (Operand.tmp 2) = ldT from rfl]
        go_region_held3 (fun w' => w'.cell? ⟨w.heap.size + 1, 0, none⟩ = some (.int .i64 0))
          (first
            | (exact HE0.out)
            | (exact cur_call HE0.out hb2)
            | (exact (World.cell?_alloc_past _ _ _ (World.block_lt_of_cell? _ _ (cur_call HE0.out hb2))).trans (cur_call HE0.out hb2))
            | (exact cur_grown (cur_call HE0.out hb2) hgrow3 HRE.out)
            | (exact (World.cell?_setCell_other _ _ _ _ (by simp)).trans (cur_grown (cur_call HE0.out hb2) hgrow3 HRE.out))
            | skip)
          (first
            | (go_at_call 63; refine (Hid.out HCL).mono ?_; rintro e w2 ⟨rfl, hb2⟩; have cT2 := cur_call cT hb2; have fT2 := cur_frz cT fT hb2; have hTw2 : w.heap.size < w2.heap.size := World.block_lt_of_cell? w2 _ cT2)
            | (refine step_append_lies _ (by rfl) _ _ _ (by rfl) (w.heap.size + 2) 9 i0 _ 1 16 Try.underlying44 hi0 hz0 hz1 hz2 rfl (by decide) (.slice A' i c') i ((l.take i).map fun x => Value.string x.str) (by rfl) (World.ownsRow.alloc (Hid.out HOWN _ hb2) _)
                ⟨w2.heap.size, 0, none⟩ 1 1 [.string s] (by rfl) (by rfl) (World.news_of_block (heap_alloc_new w2 _)) (by simp [Value.oneCell']) (by decide) (by unfold maxLen; omega) (by omega) (Nat.le_trans hbs (Nat.le_trans hb2.size (by simp))) (w2.heap.size + 1) (by simp) ?_; intro g3 cap3 w3 hown3 hgrow3 hat3 hlt3; have cT3 := cur_grown cT2 hgrow3 HRT.out; have fT3 := cur_gfrz cT2 fT2 hgrow3 HRT.out)
            | fail)
        all_goals go_wp2_with fail
        all_goals rw [← HSE.out] at hown3
        all_goals exact ⟨⟨i + 1, _, _, by go_num, HT.out.step HX.out HS.out (((Below.refl _ _).drew).trans hb2) hown3 hgrow3 hat3⟩, by simp [intOf]; omega⟩
      · have hbad := hLx.badS hs
        obtain ⟨o, hbad⟩ := hbad
        have HNO := Lib.hid (show ¬ (Va.mk 4 n0 s0 l ks f).TxtOk from fun h => by
          rcases h with h | ⟨_, h⟩
          · cases h
          · exact hs (h _ (List.getElem_mem hlt)))
        have hII := hLx.isI
        have rT := HT.out.T.drew.alloc o
        have rE := HT.out.E.drew.alloc o
        have sT := HT.out.T.alloc o
        have sE := HT.out.E.alloc o
        have HY3 := Lib.hid (show (wr.drew.alloc o).cell? ⟨w.heap.size, 0, none⟩ = some (.slice A' i c') from rT.cell (show 0 < 1 by decide))
        have HY4 := Lib.hid (rT.frozen 0)
        have HY5 := Lib.hid (show (wr.drew.alloc o).cell? ⟨w.heap.size + 1, 0, none⟩ = some (.int .i64 0) from rE.cell (show 0 < 1 by decide))
        have HY6 := Lib.hid (rE.frozen 0)
        have HY1 := Lib.hid (show ((wr.alloc o).setCell ⟨w.heap.size, 0, none⟩ (.slice none 0 0)).cell? ⟨w.heap.size, 0, none⟩ = some (.slice none 0 0) from (sT.set 0 (.slice none 0 0)).cell (show 0 < 1 by decide))
        have HY2 := Lib.hid (show (((wr.alloc o).setCell ⟨w.heap.size, 0, none⟩ (.slice none 0 0)).setCell ⟨w.heap.size + 1, 0, none⟩ (.int .i64 1)).cell? ⟨w.heap.size + 1, 0, none⟩ = some (.int .i64 1) from ((sE.setOther (a := ⟨w.heap.size, 0, none⟩) (show w.heap.size + 1 ≠ w.heap.size by omega) (.slice none 0 0)).set 0 (.int .i64 1)).cell (show 0 < 1 by decide))
        have HY7 := Lib.hid (show Below w.heap.size w ((((wr.alloc o).setCell ⟨w.heap.size, 0, none⟩ (.slice none 0 0)).setCell ⟨w.heap.size + 1, 0, none⟩ (.int .i64 1)).drew) from ((((HT.out.bel.alloc (by omega) o).setCell (Nat.le_refl _) _).setCell (Nat.le_succ _) _)).drew)
        clear hLx hs hx rT rE sT sE
        rcases hII with rfl | ⟨t7, v7, rfl⟩
        · go_wp2_with fail
          first | go_region_dies | fail
          all_goals (try go_wp2)
          all_goals
            refine leaves_cons (f := 78) (args := #[.pointer (some ⟨w.heap.size, 0, none⟩), .pointer (some ⟨w.heap.size + 1, 0, none⟩)]) (by simp) (by simp [go_sem]) ?_
            refine (catch_panics w.heap.size (w.heap.size + 1) _ (.slice A' i c') (.int .i64 0) [] _ ?_ ?_ ?_ ?_ (by omega) (by omega)).mono ?_
            · exact HY3.out
            · exact HY4.out
            · exact HY5.out
            · exact HY6.out
            rintro e u' w'' ⟨rfl, rfl, rfl⟩
            have y1 := HY1.out
            have y2 := HY2.out
            simp [Leaves, settle, results, Try.results45, go_sem, y1, y2]
            exact ⟨.inr ⟨rfl, HNO.out⟩, HY7.out⟩
        · go_wp2_with fail
          first | go_region_dies | fail
          all_goals (try go_wp2)
          all_goals
            refine leaves_cons (f := 78) (args := #[.pointer (some ⟨w.heap.size, 0, none⟩), .pointer (some ⟨w.heap.size + 1, 0, none⟩)]) (by simp) (by simp [go_sem]) ?_
            refine (catch_panics w.heap.size (w.heap.size + 1) _ (.slice A' i c') (.int .i64 0) [] _ ?_ ?_ ?_ ?_ (by omega) (by omega)).mono ?_
            · exact HY3.out
            · exact HY4.out
            · exact HY5.out
            · exact HY6.out
            rintro e u' w'' ⟨rfl, rfl, rfl⟩
            have y1 := HY1.out
            have y2 := HY2.out
            simp [Leaves, settle, results, Try.results45, go_sem, y1, y2]
            exact ⟨.inr ⟨rfl, HNO.out⟩, HY7.out⟩
    · have hie : i = l.length := by omega
      subst hie
      have y1 := (HT.out.T.set 0 (.slice A' l.length c')).cell (show 0 < 1 by decide)
      have y2 := ((HT.out.E.setOther (a := ⟨w.heap.size, 0, none⟩) (show w.heap.size + 1 ≠ w.heap.size by omega) (.slice A' l.length c')).set 0 (.int .i64 0)).cell (show 0 < 1 by decide)
      simp only [if_true] at y1 y2
      have HY1 := Lib.hid y1
      have HY2 := Lib.hid y2
      clear y1 y2
      go_wp2_with fail
      refine leaves_cons (f := 78) (args := #[.pointer (some ⟨w.heap.size, 0, none⟩), .pointer (some ⟨w.heap.size + 1, 0, none⟩)]) (by simp) (by simp [go_sem]) ?_
      refine (catch_idle _ _ _).mono ?_
      rintro e u' w'' ⟨rfl, rfl, rfl⟩
      have y1 := HY1.out
      have y2 := HY2.out
      simp [Leaves, settle, results, Try.results45, go_sem, y1, y2]
      refine ⟨.inl ⟨A', c', by simp [Va.txts], .inr ⟨rfl, fun x hx => HT.out.all x (by rw [List.take_of_length_le (Nat.le_refl _)]; exact hx)⟩, fun i s h => ?_⟩, (HT.out.bel.setCell (Nat.le_refl _) _).setCell (Nat.le_succ _) _⟩
      have ho := HT.out.own
      rw [List.take_of_length_le (Nat.le_refl _)] at ho
      have h' : (l.map fun x => Value.string x.str)[i]? = some (.string s) := by
        simp only [Va.txts, if_true, List.getElem?_map, Option.map_eq_some_iff] at h ⊢
        obtain ⟨y, hy, rfl⟩ := h
        exact ⟨y, hy, rfl⟩
      rcases ho.2 with ⟨_, h0⟩ | ⟨g', cap', cur, hv, hgb, hh, _⟩
      · have := (List.getElem?_eq_some_iff.1 h').1
        simp at this
        omega
      · have eA : A' = some ⟨g', 0, none⟩ := by injection hv
        have hgl : g' < wr.heap.size := (Array.getElem?_eq_some_iff.1 hh).1
        refine ⟨⟨g', 0, none⟩, eA, by simpa using hgl, ?_⟩
        have hc := ho.cells (g := g') (by rw [eA]; rfl) i _ h'
        rw [← hc]
        refine World.cell?_of_block ?_
        rw [adb]
        show _ = wr.heap[g']?
        rw [Below.heap_setCell _ _ _ _ (by show g' ≠ w.heap.size + 1; omega), Below.heap_setCell _ _ _ _ (by show g' ≠ w.heap.size; omega)]
end Go.Proofs.Ytlhmdbloddpfbaa
