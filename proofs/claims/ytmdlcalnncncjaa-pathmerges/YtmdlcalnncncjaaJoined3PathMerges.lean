/- Several of the texts that this claim leans on, one behind the other. -/
import Derived.Test.YtmdlcalnncncjaaJoined2PathMerges
import Derived.Test.YtmdlcalnncncjaaJoined1PathMerges
import Derived.Test.YtmdlcalnncncjaaTPlace
import Derived.Deep.QuietTactic
import Derived.BigQuiet
import Derived.Test.YtmdlcalnncncjaaPPa
import Derived.Test.YtmdlcalnncncjaaTOpen
import Derived.Test.YtmdlcalnncncjaaTPlaces
import Derived.ProofKit
import Derived.OpenShut
import Derived.ShutString
import Derived.ChangeOld
import Derived.SliceStrings
/- The reference's Ordered. -/
set_option linter.unusedVariables false
set_option linter.unusedSimpArgs false
namespace Go.Proofs.Ytmdlcalnncncjaa
open Go.RowKit
def ldF7 : Op := Op.load 23 (Operand.tmp 24)
def ldF12 : Op := Op.load 23 (Operand.tmp 50)
def SO (X : Nat) (sl : Value) (q : Addr) (key : ByteArray) (u : Hd) (w : World) : Prop := w.cell? ⟨X, 4, none⟩ = some sl ∧ At6 w q key u
theorem SO.imp {X : Nat} {sl : Value} {q : Addr} {key : ByteArray} {u : Hd} {w w' : World} (h : SO X sl q key u w) (hX : w'.heap[X]? = w.heap[X]?) (hq : w'.heap[q.block]? = w.heap[q.block]?) : SO X sl q key u w' := by
  obtain ⟨h0, h1, h2, h3, h4, h5, h6⟩ := h
  exact ⟨(World.cell?_of_block (a := ⟨X, 4, none⟩) hX).trans h0, (World.cell?_of_block (a := q) hq).trans h1, (World.cell?_of_block (a := ⟨q.block, q.off + 1, none⟩) hq).trans h2, (World.cell?_of_block (a := ⟨q.block, q.off + 2, none⟩) hq).trans h3, (World.cell?_of_block (a := ⟨q.block, q.off + 3, none⟩) hq).trans h4, (World.cell?_of_block (a := ⟨q.block, q.off + 4, none⟩) hq).trans h5, (World.cell?_of_block (a := ⟨q.block, q.off + 5, none⟩) hq).trans h6⟩
theorem SO.ltX {X : Nat} {sl : Value} {q : Addr} {key : ByteArray} {u : Hd} {w : World} (h : SO X sl q key u w) : X < w.heap.size := World.block_lt_of_cell? w _ h.1
theorem SO.ltq {X : Nat} {sl : Value} {q : Addr} {key : ByteArray} {u : Hd} {w : World} (h : SO X sl q key u w) : q.block < w.heap.size := World.block_lt_of_cell? w _ h.2.1
theorem SO.alloc {X : Nat} {sl : Value} {q : Addr} {key : ByteArray} {u : Hd} {w : World} (h : SO X sl q key u w) (o : Obj) : SO X sl q key u (w.alloc o) := h.imp (Below.heap_alloc _ _ _ h.ltX) (Below.heap_alloc _ _ _ h.ltq)
theorem SO.grown {X : Nat} {sl : Value} {q : Addr} {key : ByteArray} {u : Hd} {w w' : World} {row : Option Nat} (h : SO X sl q key u w) (hg : w.grownBy w' row) (h1 : some X ≠ row) (h2 : some q.block ≠ row) : SO X sl q key u w' := h.imp (hg.block _ h.ltX h1) (hg.block _ h.ltq h2)
theorem SO.set {X W o : Nat} {sl : Value} {q : Addr} {key : ByteArray} {u : Hd} {w : World} (h : SO X sl q key u w) (h1 : X ≠ W) (h2 : q.block ≠ W) (v : Value) : SO X sl q key u (w.setCell ⟨W, o, none⟩ v) := h.imp (Below.heap_setCell _ _ _ _ h1) (Below.heap_setCell _ _ _ _ h2)
/-- A key's place, or -1. -/
def plI (ks : List ByteArray) (key : ByteArray) : Int := match kIdx ks key with
  | some i => (i : Int)
  | none => -1
theorem place_pl {ks : List ByteArray} {key : ByteArray} {n : Int} (h : PlaceP ks key n) : n = plI ks key := by
  unfold plI
  rcases h with ⟨rfl, hi⟩ | ⟨i, rfl, hi, hni⟩
  · rw [kIdx_none.2 hi]
  · cases hk : kIdx ks key with
    | none => exact absurd (List.mem_of_getElem? hi) (kIdx_none.1 hk)
    | some m =>
      obtain ⟨h1, h2⟩ := kIdx_some hk
      have a : ¬ m < i := fun q => hni (List.mem_of_getElem? (i := m) (by rw [List.getElem?_take_of_lt q]; exact h1))
      have b : ¬ i < m := fun q => h2 (List.mem_of_getElem? (i := i) (by rw [List.getElem?_take_of_lt q]; exact hi))
      show (i : Int) = (m : Int)
      omega
theorem plI_neg {ks : List ByteArray} {key : ByteArray} : plI ks key < 0 ↔ key ∉ ks := by
  unfold plI
  cases hk : kIdx ks key with
  | none => simp [kIdx_none.1 hk]
  | some m =>
    have := List.mem_of_getElem? (kIdx_some hk).1
    simp only [this, not_true_eq_false, iff_false]
    omega
/-- The keys of a row of one's own. -/
theorem LoopZ.keys {k0 : Int} {wd wr : World} {O j : Nat} {S : Nat → Prop} {l : List Va} {us : List (ByteArray × Hd)} {A' : Option Addr} {c' : Nat} (H : LoopZF k0 wd O S l j wr us A' c') : KeyRow wr A' (us.map Prod.fst) := by
  intro i key hk
  rw [List.getElem?_map, Option.map_eq_some_iff] at hk
  obtain ⟨⟨key', u⟩, hu, rfl⟩ := hk
  have hi : i < us.length := (List.getElem?_eq_some_iff.1 hu).1
  have own := H.own
  rcases own.2 with ⟨_, h1⟩ | ⟨g, cap, cur, hv, _, hh, hle, hcm, hsz, ht⟩
  · have := H.len; omega
  · have eF : A' = some ⟨g, 0, none⟩ := by injection hv
    refine ⟨⟨g, 0, none⟩, u, eF, ?_, ?_⟩
    · rw [adb]
      exact (Array.getElem?_eq_some_iff.1 hh).1
    · refine At6.of fun d c hc => ?_
      rw [ada]
      exact own.cells (g := g) (by rw [hv]; rfl) (i * 6 + d) c (flat_at pcells 6 us (fun _ _ => rfl) i (key', u) hu d c hc)
theorem at_pl (ks : List ByteArray) (key : ByteArray) (h : Hd) (w : World) (hlf : h.lf = ks.length) (hn : ks.length ≤ 1000) (hA : KeyRow w h.F ks) :
    Calls Try.prog 30 #[h.val, .string key] w fun e w' => e = .returned (.int .i64 (plI ks key)) ∧ Below w.heap.size w w' := (at_ref ks key h w hlf hn hA).mono (by
  rintro e w' ⟨n, rfl, hp, hb⟩
  rw [place_pl hp]
  exact ⟨rfl, hb⟩)
theorem LoopZ.go {α : Type} {fn : α → List Value} {hd : α → Hd} {ty : TypeId} {size : Nat} {rw : Option Addr → Nat → Nat → Hd} {wd wr wq : World} {O j : Nat} {S : Nat → Prop} {l : List Va} {us : List α} {A' : Option Addr} {c' : Nat} (H : LoopZ fn hd ty size rw wd O S l j wr us A' c') (hb : Below wr.heap.size wr wq) (hO : O < wd.heap.size) : LoopZ fn hd ty size rw wd O S l j wq us A' c' := by
  have h1 := H.kp.size
  have h2 := hb.size
  exact ⟨H.kp.trans (Kp.of_below hb (by omega)), rowIs_below H.row hb (by omega), own_below H.own hb (Nat.le_refl _), H.len, fun i y u hy hu => Lies.keep (fun q hq hl => hb.cell hl) (fun b hb2 _ => ⟨hb2.1, by have := hb2.2.1; omega, hb2.2.2⟩) _ _ (H.lies i y u hy hu)⟩
set_option maxHeartbeats 16000000 in
set_option maxRecDepth 100000 in
theorem ordered_ref (keys : List ByteArray) (k n : Int) (s : ByteArray) (ks : List ByteArray) (f : List Va) (S : Nat → Prop) (h : Hd) (w : World) (K : Option Addr) (kc : Nat) (hSb : ∀ b, S b → b < w.heap.size) (H : Lies w S (.mk k n s [] ks f) h) (hcn : (Va.mk k n s [] ks f).cnt ≤ 1000) (hK : Rd w K keys.length (keys.map Value.string)) (hkl : keys.length ≤ 1000) (hkn : keys.Nodup) (hks : ks.Nodup) (hkz : ∀ x ∈ keys, x.size ≤ maxLen) :
    Calls Try.prog 37 #[h.val, .slice K keys.length kc] w fun e w' => RepR S (ordV keys (.mk k n s [] ks f)) w e w' := by
  obtain ⟨i6, hj0, hy0, hy1, hy2⟩ := info_parts info36
  have HSb := Lib.hid hSb
  have HH := Lib.hid H
  have HKR := Lib.hid hK
  have HKN := Lib.hid hkn
  have HKS := Lib.hid hks
  have HKZ := Lib.hid hkz
  have hfl : f.length ≤ 1000 := by have := len_le_cntL f; simp only [Va.cnt] at hcn; omega
  have hop := H.op
  simp only [Lies] at H
  obtain ⟨⟨e1, e2, e3, e4, e5, e6⟩, -, -⟩ := H
  have HE6 := Lib.hid e6
  have HKY := Lib.hid (hop.keys e6)
  have HOP := Lib.hid hop
  obtain ⟨hk, hnn, hss, HA, la, lc, F, lf, fc⟩ := h
  simp only at e1 e4 e5
  have hlf : lf = f.length := e5
  subst hlf
  have E1 := Lib.hid e1
  clear hSb hK hkn hks hkz hop e1 e2 e3 e4 e5 e6
  unfold Hd.val
  simp only
  go_enter Try.func37, Try.ntmps37
  go_wp2_with fail
  have hrow : (((w.alloc (Obj.cells #[.int .i64 hk, .int .i64 hnn, .string hss, .slice HA la lc, .slice F f.length fc] 25)).alloc (Obj.cells #[.int .i64 0, .int .i64 0, .string { data := #[] }, .slice none 0 0, .slice none 0 0] 25)).alloc (Obj.cells #[.int .i64 5, .int .i64 0, .string { data := #[] }, .slice none 0 0, .slice none 0 0] 25)).rowIs (w.heap.size + 1 + 1) 25 5 (hdAt ⟨5, 0, ByteArray.empty, none, 0, 0, none, 0, 0⟩) := hdAt_row (h := ⟨5, 0, ByteArray.empty, none, 0, 0, none, 0, 0⟩) (by have h9 := heap_alloc_new ((w.alloc (Obj.cells #[.int .i64 hk, .int .i64 hnn, .string hss, .slice HA la lc, .slice F f.length fc] 25)).alloc (Obj.cells #[.int .i64 0, .int .i64 0, .string { data := #[] }, .slice none 0 0, .slice none 0 0] 25)) (Obj.cells #[.int .i64 5, .int .i64 0, .string { data := #[] }, .slice none 0 0, .slice none 0 0] 25); rwa [World.size_alloc, World.size_alloc] at h9)
  have hres : (((w.alloc (Obj.cells #[.int .i64 hk, .int .i64 hnn, .string hss, .slice HA la lc, .slice F f.length fc] 25)).alloc (Obj.cells #[.int .i64 0, .int .i64 0, .string { data := #[] }, .slice none 0 0, .slice none 0 0] 25)).alloc (Obj.cells #[.int .i64 5, .int .i64 0, .string { data := #[] }, .slice none 0 0, .slice none 0 0] 25)).rowIs (w.heap.size + 1) 25 5 zeroRes := rowIs_below (B := w.heap.size + 2) (hdAt_row (h := ⟨0, 0, ByteArray.empty, none, 0, 0, none, 0, 0⟩) (by have h9 := heap_alloc_new (w.alloc (Obj.cells #[.int .i64 hk, .int .i64 hnn, .string hss, .slice HA la lc, .slice F f.length fc] 25)) (Obj.cells #[.int .i64 0, .int .i64 0, .string { data := #[] }, .slice none 0 0, .slice none 0 0] 25); rwa [World.size_alloc] at h9)) ((Below.refl _ _).alloc (by simp) _) (by omega)
  have hbox : (((w.alloc (Obj.cells #[.int .i64 hk, .int .i64 hnn, .string hss, .slice HA la lc, .slice F f.length fc] 25)).alloc (Obj.cells #[.int .i64 0, .int .i64 0, .string { data := #[] }, .slice none 0 0, .slice none 0 0] 25)).alloc (Obj.cells #[.int .i64 5, .int .i64 0, .string { data := #[] }, .slice none 0 0, .slice none 0 0] 25)).rowIs w.heap.size 25 5 (hdAt ⟨hk, hnn, hss, HA, la, lc, F, f.length, fc⟩) := rowIs_below (B := w.heap.size + 1) (hdAt_row (h := ⟨hk, hnn, hss, HA, la, lc, F, f.length, fc⟩) (heap_alloc_new w (Obj.cells #[.int .i64 hk, .int .i64 hnn, .string hss, .slice HA la lc, .slice F f.length fc] 25))) (((Below.refl _ _).alloc (by simp) _).alloc (by simp) _) (by omega)
  have hbw := three_allocs w (Obj.cells #[.int .i64 hk, .int .i64 hnn, .string hss, .slice HA la lc, .slice F f.length fc] 25) (Obj.cells #[.int .i64 0, .int .i64 0, .string { data := #[] }, .slice none 0 0, .slice none 0 0] 25) (Obj.cells #[.int .i64 5, .int .i64 0, .string { data := #[] }, .slice none 0 0, .slice none 0 0] 25)
  have hszz : (((w.alloc (Obj.cells #[.int .i64 hk, .int .i64 hnn, .string hss, .slice HA la lc, .slice F f.length fc] 25)).alloc (Obj.cells #[.int .i64 0, .int .i64 0, .string { data := #[] }, .slice none 0 0, .slice none 0 0] 25)).alloc (Obj.cells #[.int .i64 5, .int .i64 0, .string { data := #[] }, .slice none 0 0, .slice none 0 0] 25)).heap.size = w.heap.size + 3 := by simp
  generalize ((w.alloc (Obj.cells #[.int .i64 hk, .int .i64 hnn, .string hss, .slice HA la lc, .slice F f.length fc] 25)).alloc (Obj.cells #[.int .i64 0, .int .i64 0, .string { data := #[] }, .slice none 0 0, .slice none 0 0] 25)).alloc (Obj.cells #[.int .i64 5, .int .i64 0, .string { data := #[] }, .slice none 0 0, .slice none 0 0] 25) = wz at hrow hres hbox hbw hszz ⊢
  have HBZ := Lib.hid hbw
  have HROW := Lib.hid hrow
  have HRES := Lib.hid hres
  have HBOX := Lib.hid hbox
  clear hrow hres hbox hbw
  go_loopw [6] (fun iv wr => ∃ (i j : Nat) (us : List (ByteArray × Hd)) (A' : Option Addr) (c' : Nat), iv = .int .i64 i ∧ i ≤ keys.length ∧ us.map Prod.fst = (o1 keys (ks.zip f) i).map Prod.fst ∧ LoopZF 5 wz (w.heap.size + 1 + 1) S ((ordL keys (ks.zip f)).map Prod.snd) j wr us A' c') (fun iv _ => keys.length - (intOf iv).toNat)
  case atStart => exact ⟨0, 0, [], none, 0, rfl, Nat.zero_le _, by simp [o1_zero], ⟨Kp.refl _ _, HROW.out, World.ownsRow_nil _ _ _ _, rfl, fun j y u _ hu => by simp at hu⟩⟩
  case round =>
    obtain ⟨i, j, us, A', c', rfl, hi, hus, hLZ⟩ := hrel
    have HUS := Lib.hid hus
    have HLZ := Lib.hid hLZ
    clear hus
    have hkp := HLZ.out.kp
    have cO := HLZ.out.row.cell (show 4 < 5 by decide)
    have fO := HLZ.out.row.frozen 4
    have hOr := HLZ.out.row.lt
    have hszr := HLZ.out.kp.size
    have hji : j ≤ i := by
      have h1 := congrArg List.length HUS.out
      rw [List.length_map, List.length_map, HLZ.out.len] at h1
      rw [h1]
      unfold o1
      exact Nat.le_trans (List.length_filterMap_le _ _) (by rw [List.length_take]; omega)
    have HRO := Lib.hid (show some (w.heap.size + 1 + 1) ≠ (Value.slice A' j c').ownBlock from fun e => by have := own_lo HLZ.out.own e.symm; omega)
    have box := rowIs_below' (B := 0) HBOX.out (hkp.block w.heap.size (by omega) HBOX.out.lt)
    have HBR := Lib.hid (show Below w.heap.size w wr from HBZ.out.trans (hkp.bel.mono (by omega)))
    have b0 := box.cell (show 0 < 5 by decide)
    have b1 := box.cell (show 1 < 5 by decide)
    have b2 := box.cell (show 2 < 5 by decide)
    have b3 := box.cell (show 3 < 5 by decide)
    have b4 := box.cell (show 4 < 5 by decide)
    have hNr : w.heap.size < wr.heap.size := by omega
    simp only [hdAt, Hd.cells, List.getD_cons_succ, List.getD_cons_zero] at cO b0 b1 b2 b3 b4
    clear hLZ hkp box
    by_cases hlt : i < keys.length
    · obtain ⟨key, hkey⟩ : ∃ key, keys[i]? = some key := ⟨keys[i], List.getElem?_eq_getElem hlt⟩
      obtain ⟨adK, eK, hbl, hcell⟩ := (HKR.out.below HBR.out (Nat.le_refl _)).2 (by omega)
      have kk := hcell i (.string key) (by rw [List.getElem?_map, hkey]; rfl)
      subst eK
      have hbl2 : (adK.add i).block < wr.heap.size := by rw [adb]; exact hbl
      have HKEY := Lib.hid hkey
      have QK : ∀ x : BlwBy wr, x.now.cell? (adK.add i) = some (.string key) := fun x => x.cellA hbl2 kk
      have B0 : ∀ x : BlwBy wr, x.now.cell? ⟨w.heap.size, 0, none⟩ = some (.int .i64 hk) := fun x => x.cell hNr b0
      have B1 : ∀ x : BlwBy wr, x.now.cell? ⟨w.heap.size, 1, none⟩ = some (.int .i64 hnn) := fun x => x.cell hNr b1
      have B2 : ∀ x : BlwBy wr, x.now.cell? ⟨w.heap.size, 2, none⟩ = some (.string hss) := fun x => x.cell hNr b2
      have B3 : ∀ x : BlwBy wr, x.now.cell? ⟨w.heap.size, 3, none⟩ = some (.slice HA la lc) := fun x => x.cell hNr b3
      have B4 : ∀ x : BlwBy wr, x.now.cell? ⟨w.heap.size, 4, none⟩ = some (.slice F f.length fc) := fun x => x.cell hNr b4
      have KM : Hid (∀ x : BlwBy wr, Calls Try.prog 30 #[.agg #[.int .i64 hk, .int .i64 hnn, .string hss, .slice HA la lc, .slice F f.length fc], .string key] x.now fun e w'' => e = .returned (.int .i64 (plI ks key)) ∧ ∃ q : BlwBy wr, w'' = q.now) := Lib.hid (fun x => Calls.below_of (at_pl ks key ⟨hk, hnn, hss, HA, la, lc, F, f.length, fc⟩ x.now HE6.out.symm (by have := HE6.out; omega) ((HKY.out.below HBR.out (Nat.le_refl _)).below x.bel (Nat.le_refl _))))
      clear hkey hcell
      go_wp2_with fail
      refine wp_quiet_below (by kernel_rfl) (by kernel_rfl) ?_
      repeat (quiet_step (first | (go_at_call 30; exact KM.out _)))
      refine wpQuiet_nil ?_
      intro w9 hw'
      have hb9 : Below wr.heap.size wr w9 := by obtain ⟨⟨wx, hbx⟩, hw''⟩ := hw'; rw [hw'']; exact hbx
      clear hw'
      have HB9 := Lib.hid hb9
      have hs9 := hb9.size
      have HBW := Lib.hid (HBR.out.trans (hb9.mono (by omega)))
      have cO9 := (hb9.cell (p := ⟨w.heap.size + 1 + 1, 4, none⟩) hOr).trans cO
      have fO9 := (hb9.frozen (p := ⟨w.heap.size + 1 + 1, 4, none⟩) hOr).trans fO
      have d4 := (hb9.cell (p := ⟨w.heap.size, 4, none⟩) hNr).trans b4
      have hO9 : w.heap.size + 1 + 1 < w9.heap.size := by omega
      clear QK B0 B1 B2 B3 B4 KM b0 b1 b2 b3 b4 kk hb9
      cases hpi : kIdx ks key with
      | none =>
        have hpl : plI ks key = -1 := by unfold plI; rw [hpi]
        have HNX := Lib.hid (o1_none HKEY.out (fnd_no (f := f) (kIdx_none.1 hpi)))
        rw [hpl]
        clear hpl hpi
        go_wp2_with fail
        refine ⟨⟨i + 1, j, us, A', c', by go_num, by omega, by rw [HNX.out]; exact HUS.out, ?_⟩, by simp [intOf]; omega⟩
        exact HLZ.out.go HB9.out (by omega)
      | some m =>
        have hpl : plI ks key = (m : Int) := by unfold plI; rw [hpi]
        have hkm := (kIdx_some hpi).1
        have hml : m < f.length := by have := (List.getElem?_eq_some_iff.1 hkm).1; have := HE6.out; omega
        obtain ⟨xx, hxx⟩ : ∃ xx, f[m]? = some xx := ⟨f[m], List.getElem?_eq_getElem hml⟩
        obtain ⟨ad2, u, key', hA2, hSad, hab, hkj, hkz, hLu, hat2⟩ := HOP.out.K m xx hxx
        have ekk : key' = key := by rw [hkm] at hkj; injection hkj with hkj; exact hkj.symm
        subst ekk
        obtain ⟨k0, k1, k2, k3, k4, k5⟩ := hat2.below HBW.out hab
        obtain rfl : F = some ad2 := hA2
        have HLu := Lib.hid hLu
        have HNX := Lib.hid (o1_some HKEY.out (fnd_at HKS.out hkm hxx))
        have HY := Lib.hid (show ((ordL keys (ks.zip f)).map Prod.snd)[j]? = some xx by
          have h1 := next_of (by rw [← HNX.out]; exact o1_pre (keys := keys) (ps := ks.zip f) (i + 1))
          have h2 := congrArg List.length HUS.out
          rw [List.length_map, List.length_map, HLZ.out.len] at h2
          rw [← h2] at h1
          rw [List.getElem?_map, h1]
          rfl)
        have hge : ((m : Int) ≥ 0) := by omega
        rw [hpl]
        clear hpl hpi hkm hxx hkj hLu hat2
        have hqS : (ad2.add (m * 6)).block < w.heap.size := hab
        have HSO : Hid (SO w.heap.size (.slice (some ad2) f.length fc) (ad2.add (m * 6)) key' u w9.drew) := Lib.hid ⟨d4, k0, k1, k2, k3, k4, k5⟩
        have HQ := Lib.hid (fun o : Obj => show Below wr.heap.size wr (w9.drew.alloc o) from HB9.out.trans ((((Below.refl _ _).drew).alloc (show w9.heap.size ≤ w9.drew.heap.size from Nat.le_refl _) o).mono hs9))
        have HRC := Lib.hid (show some w.heap.size ≠ (Value.slice A' j c').ownBlock from fun e => by have := own_lo HLZ.out.own e.symm; omega)
        have HRX := Lib.hid (show some (ad2.add (m * 6)).block ≠ (Value.slice A' j c').ownBlock from fun e => by have := own_lo HLZ.out.own e.symm; omega)
        have hCW : w.heap.size ≠ w.heap.size + 1 + 1 := by omega
        have hXW : (ad2.add (m * 6)).block ≠ w.heap.size + 1 + 1 := by omega
        go_wp2_with fail
        have hld : ldF7 = Op.load 23 (Operand.tmp 24) := rfl
        rw [show Op.load 23 (Operand.tmp 24) = ldF7 from rfl]
        go_region_held3 (fun w' => w'.cell? ⟨w.heap.size, 4, none⟩ = some (.slice (some ad2) f.length fc) ∧ w'.cell? (ad2.add (m * 6)) = some (.string key') ∧ w'.cell? ⟨(ad2.add (m * 6)).block, (ad2.add (m * 6)).off + 1, none⟩ = some (.int .i64 u.k) ∧ w'.cell? ⟨(ad2.add (m * 6)).block, (ad2.add (m * 6)).off + 2, none⟩ = some (.int .i64 u.n) ∧ w'.cell? ⟨(ad2.add (m * 6)).block, (ad2.add (m * 6)).off + 3, none⟩ = some (.string u.s) ∧ w'.cell? ⟨(ad2.add (m * 6)).block, (ad2.add (m * 6)).off + 4, none⟩ = some (.slice u.A u.la u.lc) ∧ w'.cell? ⟨(ad2.add (m * 6)).block, (ad2.add (m * 6)).off + 5, none⟩ = some (.slice u.F u.lf u.fc))
          (first
            | go_keep
            | (exact SO.alloc HSO.out _)
            | (exact SO.grown (SO.alloc HSO.out _) hgrow3 HRC.out HRX.out)
            | (exact SO.set (SO.grown (SO.alloc HSO.out _) hgrow3 HRC.out HRX.out) hCW hXW _)
            | skip)
          (first
            | (refine step_append_lies _ (by rfl) _ _ _ (by rfl) wz.heap.size 36 i6 _ 6 96 Try.underlying23 hj0 hy0 hy1 hy2 rfl (by decide) (.slice A' j c') j (us.flatMap pcells) (by rfl) (own_below HLZ.out.own (HQ.out _) (Nat.le_refl _))
                ⟨w9.heap.size, 0, none⟩ 1 1 (pcells (key', u)) (by rfl) (by rfl) (World.news_of_block (heap_alloc_new w9.drew _)) (by simp [pcells, Hd.cells, Value.oneCell']) (by decide) (by unfold maxLen; omega) (by omega) (Nat.le_trans HLZ.out.kp.size (HQ.out _).size) (w9.heap.size + 1) (by simp) ?_; intro g cap w3 hown3 hgrow3 hat3 hlt3; have cO3 := cur_gr cO (HQ.out _) hgrow3 HRO.out; have fO3 := cur_grf cO fO (HQ.out _) hgrow3 HRO.out)
            | fail)
        all_goals go_wp2_with fail
        all_goals
          refine ⟨⟨i + 1, j + 1, us ++ [(key', u)], _, _, by go_num, by omega, by rw [HNX.out, List.map_append, List.map_append, HUS.out]; rfl, HLZ.out.step (by omega) (fun b hb => by have := HSb.out b hb; omega) setc4 HY.out (HQ.out _) ?_ hown3 hgrow3 (hat3.imp_right fun e => e.trans (World.size_alloc _ _).symm)⟩, by simp [intOf]; omega⟩
          refine Lies.keep (fun q hq hl => (HBW.out.trans ((((Below.refl _ _).drew).alloc (show w9.heap.size ≤ w9.drew.heap.size from Nat.le_refl _) _).mono HBW.out.size)).cell hl) (fun b hb hl => ⟨.inl hb, ?_, fun e => ?_⟩) _ _ HLu.out
          · have := HBW.out.size; have h3 : w9.drew.heap.size = w9.heap.size := rfl; simp; omega
          · have := own_lo HLZ.out.own e; omega
    · obtain rfl : i = keys.length := by omega
      have HU0 := Lib.hid (show us.map Prod.fst = (o2 keys (ks.zip f) 0).map Prod.fst from by rw [o2_zero]; exact HUS.out)
      have HI0 := Lib.hid (show j ≤ keys.length from hji)
      clear HUS hszr hOr HRO HBR hNr cO fO b0 b1 b2 b3 hji hi hlt
      go_wp2_with fail
      go_loopw [8] (fun iv wx => ∃ (i j : Nat) (us : List (ByteArray × Hd)) (A' : Option Addr) (c' : Nat), iv = .int .i64 i ∧ i ≤ f.length ∧ us.map Prod.fst = (o2 keys (ks.zip f) i).map Prod.fst ∧ LoopZF 5 wz (w.heap.size + 1 + 1) S ((ordL keys (ks.zip f)).map Prod.snd) j wx us A' c') (fun iv _ => f.length - (intOf iv).toNat)
      case atStart => exact ⟨0, j, us, A', c', rfl, Nat.zero_le _, HU0.out, HLZ.out⟩
      case round =>
        clear HU0 HI0 HLZ b4
        obtain ⟨i, j, us, A', c', rfl, hi, hus, hLZ⟩ := hrel
        have HUS := Lib.hid hus
        have HLZ := Lib.hid hLZ
        clear hus
        have hkp := HLZ.out.kp
        have o0 := HLZ.out.row.cell (show 0 < 5 by decide)
        have o1' := HLZ.out.row.cell (show 1 < 5 by decide)
        have o2' := HLZ.out.row.cell (show 2 < 5 by decide)
        have o3 := HLZ.out.row.cell (show 3 < 5 by decide)
        have cO := HLZ.out.row.cell (show 4 < 5 by decide)
        have fO := HLZ.out.row.frozen 4
        have hOr := HLZ.out.row.lt
        have hszr := HLZ.out.kp.size
        have hju : j = us.length := HLZ.out.len.symm
        have hji : j ≤ 1000 := by
          have h1 := congrArg List.length HUS.out
          rw [List.length_map, List.length_map, HLZ.out.len] at h1
          have h2 := (o2_pre (keys := keys) (ps := ks.zip f) i).length_le
          have h3 := (ordL_perm (keys := keys) (ps := ks.zip f) HKN.out (by rw [List.map_fst_zip (by have := HE6.out; omega)]; exact HKS.out)).length_eq
          have h4 := List.length_zip (l₁ := ks) (l₂ := f)
          omega
        have HRO := Lib.hid (show some (w.heap.size + 1 + 1) ≠ (Value.slice A' j c').ownBlock from fun e => by have := own_lo HLZ.out.own e.symm; omega)
        have box := rowIs_below' (B := 0) HBOX.out (hkp.block w.heap.size (by omega) HBOX.out.lt)
        have HBR := Lib.hid (show Below w.heap.size w wr from HBZ.out.trans (hkp.bel.mono (by omega)))
        have b4 := box.cell (show 4 < 5 by decide)
        have hNr : w.heap.size < wr.heap.size := by omega
        simp only [hdAt, Hd.cells, List.getD_cons_succ, List.getD_cons_zero] at o0 o1' o2' o3 cO b4
        clear hLZ hkp box hju
        by_cases hlt : i < f.length
        · obtain ⟨xx, hxx⟩ : ∃ xx, f[i]? = some xx := ⟨f[i], List.getElem?_eq_getElem hlt⟩
          obtain ⟨ad2, u, key, hA2, hSad, hab, hkj, hkz, hLu, hat2⟩ := HOP.out.K i xx hxx
          obtain ⟨k0, k1, k2, k3, k4, k5⟩ := hat2.below HBR.out hab
          obtain rfl : F = some ad2 := hA2
          have HLu := Lib.hid hLu
          have hpi : (ks.zip f)[i]? = some (key, xx) := List.getElem?_zip_eq_some.2 ⟨hkj, hxx⟩
          have HPI := Lib.hid hpi
          have hbl2 : (ad2.add (i * 6)).block < wr.heap.size := by omega
          have QK : ∀ x : BlwBy wr, x.now.cell? (ad2.add (i * 6)) = some (.string key) := fun x => x.cellA hbl2 k0
          have B0 : ∀ x : BlwBy wr, x.now.cell? ⟨w.heap.size + 1 + 1, 0, none⟩ = some (.int .i64 5) := fun x => x.cell hOr o0
          have B1 : ∀ x : BlwBy wr, x.now.cell? ⟨w.heap.size + 1 + 1, 1, none⟩ = some (.int .i64 0) := fun x => x.cell hOr o1'
          have B2 : ∀ x : BlwBy wr, x.now.cell? ⟨w.heap.size + 1 + 1, 2, none⟩ = some (.string ByteArray.empty) := fun x => x.cell hOr o2'
          have B3 : ∀ x : BlwBy wr, x.now.cell? ⟨w.heap.size + 1 + 1, 3, none⟩ = some (.slice none 0 0) := fun x => x.cell hOr o3
          have B4 : ∀ x : BlwBy wr, x.now.cell? ⟨w.heap.size + 1 + 1, 4, none⟩ = some (.slice A' j c') := fun x => x.cell hOr cO
          have B5 : ∀ x : BlwBy wr, x.now.cell? ⟨w.heap.size, 4, none⟩ = some (.slice (some ad2) f.length fc) := fun x => x.cell hNr b4
          have KM : Hid (∀ x : BlwBy wr, Calls Try.prog 30 #[.agg #[.int .i64 5, .int .i64 0, .string ByteArray.empty, .slice none 0 0, .slice A' j c'], .string key] x.now fun e w'' => e = .returned (.int .i64 (plI (us.map Prod.fst) key)) ∧ ∃ q : BlwBy wr, w'' = q.now) := Lib.hid (fun x => Calls.below_of (at_pl (us.map Prod.fst) key ⟨5, 0, ByteArray.empty, none, 0, 0, A', j, c'⟩ x.now (by simp [HLZ.out.len]) (by simp [HLZ.out.len]; omega) (HLZ.out.keys.below x.bel (Nat.le_refl _))))
          clear hkj hpi
          go_wp2_with fail
          refine wp_quiet_below (by kernel_rfl) (by kernel_rfl) ?_
          repeat (quiet_step (first | (go_at_call 30; exact KM.out _)))
          refine wpQuiet_nil ?_
          intro w9 hw'
          have hb9 : Below wr.heap.size wr w9 := by obtain ⟨⟨wx, hbx⟩, hw''⟩ := hw'; rw [hw'']; exact hbx
          clear hw'
          have HB9 := Lib.hid hb9
          have hs9 := hb9.size
          have HBW := Lib.hid (HBR.out.trans (hb9.mono (by omega)))
          have cO9 := (hb9.cell (p := ⟨w.heap.size + 1 + 1, 4, none⟩) hOr).trans cO
          have fO9 := (hb9.frozen (p := ⟨w.heap.size + 1 + 1, 4, none⟩) hOr).trans fO
          have d4 := (hb9.cell (p := ⟨w.heap.size, 4, none⟩) hNr).trans b4
          have hO9 : w.heap.size + 1 + 1 < w9.heap.size := by omega
          clear QK B0 B1 B2 B3 B4 B5 KM b4 o0 o1' o2' o3 k0 k1 k2 k3 k4 k5 hb9
          by_cases hin : key ∈ keys
          · have hnn2 : ¬ plI (us.map Prod.fst) key < 0 := by
              rw [plI_neg, HUS.out]
              exact fun q => q ((o2_mem (by rw [List.map_fst_zip (by have := HE6.out; omega)]; exact HKS.out) HPI.out).2 hin)
            have hng : 0 ≤ plI (us.map Prod.fst) key := by omega
            have HNX := Lib.hid (o2_in HPI.out hin)
            generalize plI (us.map Prod.fst) key = pn at hnn2 hng ⊢
            clear hin
            go_wp2_with fail
            refine ⟨⟨i + 1, j, us, A', c', by go_num, by omega, by rw [HNX.out]; exact HUS.out, ?_⟩, by simp [intOf]; omega⟩
            exact HLZ.out.go HB9.out (by omega)
          · have hnn2 : plI (us.map Prod.fst) key < 0 := by
              rw [plI_neg, HUS.out]
              exact fun q => hin ((o2_mem (by rw [List.map_fst_zip (by have := HE6.out; omega)]; exact HKS.out) HPI.out).1 q)
            obtain ⟨k0, k1, k2, k3, k4, k5⟩ := hat2.below HBW.out hab
            have HNX := Lib.hid (o2_out HPI.out hin)
            generalize plI (us.map Prod.fst) key = pn at hnn2 ⊢
            have HY := Lib.hid (show ((ordL keys (ks.zip f)).map Prod.snd)[j]? = some xx by
              have h1 := next_of (by rw [← HNX.out]; exact o2_pre (keys := keys) (ps := ks.zip f) (i + 1))
              have h2 := congrArg List.length HUS.out
              rw [List.length_map, List.length_map, HLZ.out.len] at h2
              rw [← h2] at h1
              rw [List.getElem?_map, h1]
              rfl)
            clear hin hLu hat2 hxx
            have hqS : (ad2.add (i * 6)).block < w.heap.size := hab
            have HSO : Hid (SO w.heap.size (.slice (some ad2) f.length fc) (ad2.add (i * 6)) key u w9.drew) := Lib.hid ⟨d4, k0, k1, k2, k3, k4, k5⟩
            have HQ := Lib.hid (fun o : Obj => show Below wr.heap.size wr (w9.drew.alloc o) from HB9.out.trans ((((Below.refl _ _).drew).alloc (show w9.heap.size ≤ w9.drew.heap.size from Nat.le_refl _) o).mono hs9))
            have HRC := Lib.hid (show some w.heap.size ≠ (Value.slice A' j c').ownBlock from fun e => by have := own_lo HLZ.out.own e.symm; omega)
            have HRX := Lib.hid (show some (ad2.add (i * 6)).block ≠ (Value.slice A' j c').ownBlock from fun e => by have := own_lo HLZ.out.own e.symm; omega)
            have hCW : w.heap.size ≠ w.heap.size + 1 + 1 := by omega
            have hXW : (ad2.add (i * 6)).block ≠ w.heap.size + 1 + 1 := by omega
            go_wp2_with fail
            have hld : ldF12 = Op.load 23 (Operand.tmp 50) := rfl
            rw [show Op.load 23 (Operand.tmp 50) = ldF12 from rfl]
            go_region_held3 (fun w' => w'.cell? ⟨w.heap.size, 4, none⟩ = some (.slice (some ad2) f.length fc) ∧ w'.cell? (ad2.add (i * 6)) = some (.string key) ∧ w'.cell? ⟨(ad2.add (i * 6)).block, (ad2.add (i * 6)).off + 1, none⟩ = some (.int .i64 u.k) ∧ w'.cell? ⟨(ad2.add (i * 6)).block, (ad2.add (i * 6)).off + 2, none⟩ = some (.int .i64 u.n) ∧ w'.cell? ⟨(ad2.add (i * 6)).block, (ad2.add (i * 6)).off + 3, none⟩ = some (.string u.s) ∧ w'.cell? ⟨(ad2.add (i * 6)).block, (ad2.add (i * 6)).off + 4, none⟩ = some (.slice u.A u.la u.lc) ∧ w'.cell? ⟨(ad2.add (i * 6)).block, (ad2.add (i * 6)).off + 5, none⟩ = some (.slice u.F u.lf u.fc))
              (first
                | go_keep
                | (exact SO.alloc HSO.out _)
                | (exact SO.grown (SO.alloc HSO.out _) hgrow3 HRC.out HRX.out)
                | (exact SO.set (SO.grown (SO.alloc HSO.out _) hgrow3 HRC.out HRX.out) hCW hXW _)
                | skip)
              (first
                | (refine step_append_lies _ (by rfl) _ _ _ (by rfl) wz.heap.size 36 i6 _ 6 96 Try.underlying23 hj0 hy0 hy1 hy2 rfl (by decide) (.slice A' j c') j (us.flatMap pcells) (by rfl) (own_below HLZ.out.own (HQ.out _) (Nat.le_refl _))
                    ⟨w9.heap.size, 0, none⟩ 1 1 (pcells (key, u)) (by rfl) (by rfl) (World.news_of_block (heap_alloc_new w9.drew _)) (by simp [pcells, Hd.cells, Value.oneCell']) (by decide) (by unfold maxLen; omega) (by omega) (Nat.le_trans HLZ.out.kp.size (HQ.out _).size) (w9.heap.size + 1) (by simp) ?_; intro g cap w3 hown3 hgrow3 hat3 hlt3; have cO3 := cur_gr cO (HQ.out _) hgrow3 HRO.out; have fO3 := cur_grf cO fO (HQ.out _) hgrow3 HRO.out)
                | fail)
            all_goals go_wp2_with fail
            all_goals
              refine ⟨⟨i + 1, j + 1, us ++ [(key, u)], _, _, by go_num, by omega, by rw [HNX.out, List.map_append, List.map_append, HUS.out]; rfl, HLZ.out.step (by omega) (fun b hb => by have := HSb.out b hb; omega) setc4 HY.out (HQ.out _) ?_ hown3 hgrow3 (hat3.imp_right fun e => e.trans (World.size_alloc _ _).symm)⟩, by simp [intOf]; omega⟩
              refine Lies.keep (fun q hq hl => (HBW.out.trans ((((Below.refl _ _).drew).alloc (show w9.heap.size ≤ w9.drew.heap.size from Nat.le_refl _) _).mono HBW.out.size)).cell hl) (fun b hb hl => ⟨.inl hb, ?_, fun e => ?_⟩) _ _ HLu.out
              · have := HBW.out.size; have h3 : w9.drew.heap.size = w9.heap.size := rfl; simp; omega
              · have := own_lo HLZ.out.own e; omega
        · obtain rfl : i = f.length := by omega
          have hRr := rowIs_below' (B := 0) HRES.out (HLZ.out.kp.block (w.heap.size + 1) (by omega) HRES.out.lt)
          have z0 := hRr.cell (show 0 < 5 by decide)
          have z1 := hRr.cell (show 1 < 5 by decide)
          have z2 := hRr.cell (show 2 < 5 by decide)
          have z3 := hRr.cell (show 3 < 5 by decide)
          have z4 := hRr.cell (show 4 < 5 by decide)
          have g0 := hRr.frozen 0
          have g1 := hRr.frozen 1
          have g2 := hRr.frozen 2
          have g3 := hRr.frozen 3
          have g4 := hRr.frozen 4
          simp only [zeroRes, hdAt, Hd.cells, List.getD_cons_succ, List.getD_cons_zero] at z0 z1 z2 z3 z4
          clear hRr
          go_wp2_with fail
          refine bodyPost_ret (v := .agg #[.int .i64 5, .int .i64 0, .string ByteArray.empty, .slice none 0 0, .slice A' j c']) (by simp [results, Try.results37, go_sem, z0, z1, z2, z3, z4]; try rfl) rfl ?_
          have hjl : j = ((ordL keys (ks.zip f)).map Prod.snd).length := by
            have h1 := congrArg List.length HUS.out
            rw [List.length_map, List.length_map, HLZ.out.len] at h1
            rw [h1, List.length_map, ← o2_all, List.length_zip, HE6.out, Nat.min_self]
          have hpl : (ks.zip f).length = f.length := by rw [List.length_zip, HE6.out, Nat.min_self]
          have hus2 : us.map Prod.fst = (ordL keys (ks.zip f)).map Prod.fst := by rw [HUS.out, ← o2_all, hpl]
          have hkm2 : ∀ x ∈ (ordL keys (ks.zip f)).map Prod.fst, x.size ≤ maxLen := fun x hx => by
            have h1 := (ordL_perm (keys := keys) (ps := ks.zip f) HKN.out (by rw [List.map_fst_zip (by have := HE6.out; omega)]; exact HKS.out)).map Prod.fst
            rw [List.map_fst_zip (by have := HE6.out; omega)] at h1
            have h2 := HH.out
            simp only [Lies] at h2
            exact h2.2.1.2.2.2.1 x (h1.mem_iff.1 hx)
          refine ⟨⟨5, 0, ByteArray.empty, none, 0, 0, A', j, c'⟩, rfl, ?_, res_below HBR.out (by omega)⟩
          exact HLZ.out.doneF hjl hus2 hkm2 (by rw [← hjl]; unfold maxLen; omega) (by decide) (by omega) (fun b hb hs => res_set (w := w) b (fun e => by
            rcases hs with h | h
            · have := HSb.out b h; omega
            · omega))
end Go.Proofs.Ytmdlcalnncncjaa

/- Keys: few of them, one of them twice. -/
set_option linter.unusedVariables false
set_option linter.unusedSimpArgs false
namespace Go.Proofs.Ytmdlcalnncncjaa
open Go.RowKit
theorem below_drewQ {B : Nat} {w w1 : World} (h : Below B w w1) (n : Nat) : Below B w (w1.drewN n) := ⟨h.os, h.tape, h.output, h.size, h.block⟩
def TwiceR (keys : List ByteArray) (w : World) (e : Ending) (w' : World) : Prop := ∃ r : Bool, e = .returned (.bool r) ∧ (r = true ↔ ¬ keys.Nodup) ∧ Below w.heap.size w w'
/-- Few keys, and short ones. -/
def FewKs (keys : List ByteArray) (w : World) (e : Ending) (w' : World) : Prop := ∃ r : Bool, e = .returned (.bool r) ∧ (r = true → keys.length ≤ 40 ∧ ∀ x ∈ keys, x.size ≤ 500) ∧ Below w.heap.size w w'
set_option maxHeartbeats 400000 in
theorem few_keys (keys : List ByteArray) (K : Option Addr) (kc : Nat) (w : World) (hm : keys.length ≤ maxLen) (hK : Rd w K keys.length (keys.map Value.string)) :
    Calls Try.prog 34 #[.slice K keys.length kc] w fun e w' => FewKs keys w e w' := by
  unfold maxLen at hm
  have HK := Lib.hid hK
  clear hK
  go_enter Try.func34, Try.ntmps34
  go_wp2_with fail
  go_loopw [3] (fun iv wr => wr = w ∧ ∃ i : Nat, iv = .int .i64 i ∧ i ≤ keys.length ∧ i ≤ 50 ∧ ∀ x ∈ keys.take i, x.size ≤ 500) (fun iv _ => keys.length - (intOf iv).toNat)
  case atStart => exact ⟨rfl, 0, rfl, Nat.zero_le _, Nat.zero_le _, by simp⟩
  case round =>
    obtain ⟨rfl, i, rfl, hi, hi2, ht⟩ := hrel
    have HT := Lib.hid ht
    clear ht
    by_cases h1 : i < keys.length
    · by_cases h2 : i < 50
      · obtain ⟨x, hx⟩ : ∃ x, keys[i]? = some x := ⟨keys[i], List.getElem?_eq_getElem h1⟩
        obtain ⟨ad, eK, hbl, hcell⟩ := HK.out.2 (by omega)
        have q0 := hcell i (.string x) (by rw [List.getElem?_map, hx]; rfl)
        subst eK
        have HX := Lib.hid hx
        clear hx hcell
        by_cases h3 : 500 < x.size
        · go_wp2_with fail
          go_ret
          exact ⟨false, rfl, fun h => (by cases h), Below.refl _ _⟩
        · have HN : Hid (∀ y ∈ keys.take (i + 1), y.size ≤ 500) := Lib.hid (by
            intro t ht
            rw [List.take_add_one, HX.out] at ht
            rcases List.mem_append.1 ht with ht | ht
            · exact HT.out t ht
            · simp at ht; subst ht; omega)
          go_wp2_with fail
          exact ⟨⟨trivial, i + 1, by go_num, by omega, by omega, HN.out⟩, by simp [intOf]; omega⟩
      · have h5 : 40 < keys.length := by omega
        go_wp2_with fail
        go_ret
        exact ⟨_, rfl, fun h => (by simp at h; omega), Below.refl _ _⟩
    · have HN : Hid (∀ x ∈ keys, x.size ≤ 500) := Lib.hid (by have := HT.out; rwa [List.take_of_length_le (by omega)] at this)
      go_wp2_with fail
      go_ret
      exact ⟨_, rfl, fun h => ⟨by simp at h; omega, HN.out⟩, Below.refl _ _⟩
set_option maxHeartbeats 400000 in
set_option maxRecDepth 100000 in
theorem twice_law3 (keys : List ByteArray) (K : Option Addr) (kc : Nat) (w : World) (hn : keys.length ≤ 1048576) (hK : Rd w K keys.length (keys.map Value.string)) :
    Calls Try.prog 36 #[.slice K keys.length kc] w fun e w' => TwiceR keys w e w' := by
  have HK := Lib.hid hK
  clear hK
  go_enter Try.func36, Try.ntmps36
  go_wp2_with fail
  go_loopw [3] (fun iv wr => ∃ i : Nat, iv = .int .i64 i ∧ i ≤ keys.length ∧ (keys.take i).Nodup ∧ Below w.heap.size w wr) (fun iv _ => keys.length - (intOf iv).toNat)
  case atStart => exact ⟨0, rfl, Nat.zero_le _, by simp, Below.refl _ _⟩
  case round =>
    obtain ⟨i, rfl, hi, hnd, hb⟩ := hrel
    have HND := Lib.hid hnd
    have HB := Lib.hid hb
    clear hnd hb
    by_cases hlt : i < keys.length
    · obtain ⟨key, hkey⟩ : ∃ key, keys[i]? = some key := ⟨keys[i], List.getElem?_eq_getElem hlt⟩
      have HKEY := Lib.hid hkey
      clear hkey
      go_wp2_with fail
      go_loopw [4] (fun jv wx => ∃ j : Nat, jv = .int .i64 j ∧ j ≤ i ∧ key ∉ keys.take j ∧ Below w.heap.size w wx) (fun jv _ => i - (intOf jv).toNat)
      case atStart => exact ⟨0, rfl, Nat.zero_le _, by simp, HB.out⟩
      case round =>
        obtain ⟨j, rfl, hj, hnj, hb2⟩ := hrel
        have HNJ := Lib.hid hnj
        have HB2 := Lib.hid hb2
        clear hnj hb2
        by_cases hlj : j < i
        · obtain ⟨k2, hk2⟩ : ∃ k2, keys[j]? = some k2 := ⟨keys[j]'(by omega), List.getElem?_eq_getElem (by omega)⟩
          obtain ⟨ad, eK, hbl, hcell⟩ := (HK.out.below HB2.out (Nat.le_refl _)).2 (by omega)
          have q1 := hcell i (.string key) (by rw [List.getElem?_map, HKEY.out]; rfl)
          have q2 := hcell j (.string k2) (by rw [List.getElem?_map, hk2]; rfl)
          subst eK
          have HK2 := Lib.hid hk2
          clear hk2 hcell
          by_cases he : k2 = key
          · subst he
            have HNO := Lib.hid (not_nodup HKEY.out (List.mem_iff_getElem?.2 ⟨j, by rw [List.getElem?_take_of_lt hlj]; exact HK2.out⟩))
            have hbe := bytes_eq (rfl : k2 = k2)
            go_wp2_with fail
            go_quiet (fail)
            go_wp2_with fail
            go_ret
            exact ⟨true, rfl, ⟨fun _ => HNO.out, fun _ => rfl⟩, below_drewQ HB2.out _⟩
          · have hbe := bytes_ne (show ¬ k2 = key from fun e => he e)
            have HN := Lib.hid (notin_step HNJ.out HK2.out he)
            clear he
            go_wp2_with fail
            go_quiet (fail)
            go_wp2_with fail
            exact ⟨⟨j + 1, by go_num, by omega, HN.out, below_drewQ HB2.out _⟩, by simp [intOf]; omega⟩
        · obtain rfl : j = i := by omega
          have HN := Lib.hid (nodup_take_step HND.out HKEY.out HNJ.out)
          go_wp2_with fail
          exact ⟨⟨j + 1, by go_num, by omega, HN.out, HB2.out⟩, by simp [intOf]; omega⟩
    · have HN : Hid keys.Nodup := Lib.hid (by have := HND.out; rwa [List.take_of_length_le (by omega)] at this)
      go_wp2_with fail
      go_ret
      exact ⟨false, rfl, ⟨fun h => (by cases h), fun h => absurd HN.out h⟩, HB.out⟩
set_option maxHeartbeats 400000 in
set_option maxRecDepth 100000 in
theorem twice_ref6 (keys : List ByteArray) (K : Option Addr) (kc : Nat) (w : World) (hn : keys.length ≤ 1048576) (hK : Rd w K keys.length (keys.map Value.string)) :
    Calls Try.prog 93 #[.slice K keys.length kc] w fun e w' => TwiceR keys w e w' := by
  have HK := Lib.hid hK
  clear hK
  go_enter Try.func93, Try.ntmps93
  go_wp2_with fail
  go_loopw [3] (fun iv wr => ∃ i : Nat, iv = .int .i64 i ∧ i ≤ keys.length ∧ (keys.take i).Nodup ∧ Below w.heap.size w wr) (fun iv _ => keys.length - (intOf iv).toNat)
  case atStart => exact ⟨0, rfl, Nat.zero_le _, by simp, Below.refl _ _⟩
  case round =>
    obtain ⟨i, rfl, hi, hnd, hb⟩ := hrel
    have HND := Lib.hid hnd
    have HB := Lib.hid hb
    clear hnd hb
    by_cases hlt : i < keys.length
    · obtain ⟨key, hkey⟩ : ∃ key, keys[i]? = some key := ⟨keys[i], List.getElem?_eq_getElem hlt⟩
      have HKEY := Lib.hid hkey
      clear hkey
      go_wp2_with fail
      go_loopw [4] (fun jv wx => ∃ j : Nat, jv = .int .i64 j ∧ j ≤ i ∧ key ∉ keys.take j ∧ Below w.heap.size w wx) (fun jv _ => i - (intOf jv).toNat)
      case atStart => exact ⟨0, rfl, Nat.zero_le _, by simp, HB.out⟩
      case round =>
        obtain ⟨j, rfl, hj, hnj, hb2⟩ := hrel
        have HNJ := Lib.hid hnj
        have HB2 := Lib.hid hb2
        clear hnj hb2
        by_cases hlj : j < i
        · obtain ⟨k2, hk2⟩ : ∃ k2, keys[j]? = some k2 := ⟨keys[j]'(by omega), List.getElem?_eq_getElem (by omega)⟩
          obtain ⟨ad, eK, hbl, hcell⟩ := (HK.out.below HB2.out (Nat.le_refl _)).2 (by omega)
          have q1 := hcell i (.string key) (by rw [List.getElem?_map, HKEY.out]; rfl)
          have q2 := hcell j (.string k2) (by rw [List.getElem?_map, hk2]; rfl)
          subst eK
          have HK2 := Lib.hid hk2
          clear hk2 hcell
          by_cases he : k2 = key
          · subst he
            have HNO := Lib.hid (not_nodup HKEY.out (List.mem_iff_getElem?.2 ⟨j, by rw [List.getElem?_take_of_lt hlj]; exact HK2.out⟩))
            have hbe := bytes_eq (rfl : k2 = k2)
            go_wp2_with fail
            go_quiet (fail)
            go_wp2_with fail
            go_ret
            exact ⟨true, rfl, ⟨fun _ => HNO.out, fun _ => rfl⟩, below_drewQ HB2.out _⟩
          · have hbe := bytes_ne (show ¬ key = k2 from fun e => he e.symm)
            have HN := Lib.hid (notin_step HNJ.out HK2.out he)
            clear he
            go_wp2_with fail
            go_quiet (fail)
            go_wp2_with fail
            exact ⟨⟨j + 1, by go_num, by omega, HN.out, below_drewQ HB2.out _⟩, by simp [intOf]; omega⟩
        · obtain rfl : j = i := by omega
          have HN := Lib.hid (nodup_take_step HND.out HKEY.out HNJ.out)
          go_wp2_with fail
          exact ⟨⟨j + 1, by go_num, by omega, HN.out, HB2.out⟩, by simp [intOf]; omega⟩
    · have HN : Hid keys.Nodup := Lib.hid (by have := HND.out; rwa [List.take_of_length_le (by omega)] at this)
      go_wp2_with fail
      go_ret
      exact ⟨false, rfl, ⟨fun h => (by cases h), fun h => absurd HN.out h⟩, HB.out⟩
end Go.Proofs.Ytmdlcalnncncjaa

/- The reference's Merge. -/
set_option linter.unusedVariables false
set_option linter.unusedSimpArgs false
namespace Go.Proofs.Ytmdlcalnncncjaa
open Go.RowKit
def ldF15 : Op := Op.load 23 (Operand.tmp 61)
def ldV18 : Op := Op.load 25 (Operand.tmp 4)
/-- The five cells of two boxes. -/
abbrev T10 (N : Nat) (h : Hd) (M : Nat) (u : Hd) (w' : World) : Prop := w'.cell? ⟨N, 0, none⟩ = some (.int .i64 h.k) ∧ w'.cell? ⟨N, 1, none⟩ = some (.int .i64 h.n) ∧ w'.cell? ⟨N, 2, none⟩ = some (.string h.s) ∧ w'.cell? ⟨N, 3, none⟩ = some (.slice h.A h.la h.lc) ∧ w'.cell? ⟨N, 4, none⟩ = some (.slice h.F h.lf h.fc) ∧ w'.cell? ⟨M, 0, none⟩ = some (.int .i64 u.k) ∧ w'.cell? ⟨M, 1, none⟩ = some (.int .i64 u.n) ∧ w'.cell? ⟨M, 2, none⟩ = some (.string u.s) ∧ w'.cell? ⟨M, 3, none⟩ = some (.slice u.A u.la u.lc) ∧ w'.cell? ⟨M, 4, none⟩ = some (.slice u.F u.lf u.fc)
theorem T10.of {w : World} {N M : Nat} {h u : Hd} (H : Bx w N h) (K : Bx w M u) : T10 N h M u w := ⟨H.2 0 _ rfl, H.2 1 _ rfl, H.2 2 _ rfl, H.2 3 _ rfl, H.2 4 _ rfl, K.2 0 _ rfl, K.2 1 _ rfl, K.2 2 _ rfl, K.2 3 _ rfl, K.2 4 _ rfl⟩
theorem T10.imp {N M : Nat} {h u : Hd} {w w' : World} (H : T10 N h M u w) (hN : w'.heap[N]? = w.heap[N]?) (hM : w'.heap[M]? = w.heap[M]?) : T10 N h M u w' := by
  obtain ⟨a0, a1, a2, a3, a4, b0, b1, b2, b3, b4⟩ := H
  exact ⟨(World.cell?_of_block (a := ⟨N, 0, none⟩) hN).trans a0, (World.cell?_of_block (a := ⟨N, 1, none⟩) hN).trans a1, (World.cell?_of_block (a := ⟨N, 2, none⟩) hN).trans a2, (World.cell?_of_block (a := ⟨N, 3, none⟩) hN).trans a3, (World.cell?_of_block (a := ⟨N, 4, none⟩) hN).trans a4, (World.cell?_of_block (a := ⟨M, 0, none⟩) hM).trans b0, (World.cell?_of_block (a := ⟨M, 1, none⟩) hM).trans b1, (World.cell?_of_block (a := ⟨M, 2, none⟩) hM).trans b2, (World.cell?_of_block (a := ⟨M, 3, none⟩) hM).trans b3, (World.cell?_of_block (a := ⟨M, 4, none⟩) hM).trans b4⟩
theorem bx_row {w : World} {N : Nat} {u : Hd} (H : w.rowIs N 25 5 (hdAt u)) : Bx w N u := by
  refine ⟨H.lt, fun j c hj => ?_⟩
  have hj5 : j < 5 := (List.getElem?_eq_some_iff.1 hj).1
  rw [H.cell hj5]
  have : u.cells.getD j undef = c := by rw [List.getD_eq_getElem?_getD, hj]; rfl
  exact congrArg some this
theorem doneStart {wo w6 : World} {O n c1 : Nat} {S : Nat → Prop} {A1 : Option Addr} {ks : List ByteArray} {f f2 : List Va} {us : List Hd} (hkp : Kp O wo w6) (hrow : w6.rowIs O 25 5 (hdAt ⟨5, 0, ByteArray.empty, none, 0, 0, A1, n, c1⟩)) (hown : w6.ownsRow wo.heap.size 36 6 (.slice A1 n c1) n ((ks.zip us).flatMap pcells)) (hn : n = f.length) (hkl : ks.length = f.length) (hul : us.length = f.length)
    (hlies : LiesL w6 (fun b => S b) f us) (hSb : ∀ b, S b → b < wo.heap.size) : LoopZF 5 wo O S (f ++ f2) n w6 (ks.zip us) A1 c1 := by
  refine ⟨hkp, hrow, hown, by rw [List.length_zip]; omega, fun j y u hy hu => ?_⟩
  have hj : j < f.length := by have := (List.getElem?_eq_some_iff.1 hu).1; rw [List.length_zip] at this; omega
  rw [List.getElem?_append_left hj] at hy
  obtain ⟨u', hu', hl⟩ := LiesL_at hlies hy
  have hz := List.getElem?_zip_eq_some.1 hu
  rw [hu'] at hz
  obtain ⟨-, hz⟩ := hz
  injection hz with hz
  rw [← hz]
  have := hkp.size
  refine Lies.keep (fun _ _ _ => rfl) (fun b hb hl => ⟨.inl hb, hl, fun e => ?_⟩) _ _ hl
  have h1 := (own_lo hown e).1
  have := hSb b hb
  omega
set_option maxHeartbeats 16000000 in
set_option maxRecDepth 100000 in
theorem merge_ref (a o : Va) (S S' : Nat → Prop) (h hx : Hd) (w : World) (A : Option Addr) (m c : Nat) (p : List St) (K : Option Addr) (kc : Nat) (keys : List ByteArray) (H : Lies w S a h) (HX : Lies w S' o hx) (hsh : a.Sh) (hcn : a.cnt ≤ 60) (hxs : o.Sh) (hxc : o.cnt ≤ 60) (hA : PathAt w A p) (hm : m = p.length) (hc : m ≤ c) (hp : m ≤ 1000) (hkk : ∀ s ∈ p, s.k.size ≤ 4294967296) (hK : Rd w K keys.length (keys.map Value.string)) (hkl : keys.length ≤ 1000) (hkz : ∀ x ∈ keys, x.size ≤ maxLen) :
    Calls Try.prog 55 #[h.val, .slice A m c, hx.val, .slice K keys.length kc] w fun e w' => MrgQ a p o keys w e w' := by
  obtain ⟨i6, hj0, hy0, hy1, hy2⟩ := info_parts info36
  have HS := Lib.hid (show Lies w (fun b => b < w.heap.size) a h from Lies.keep (fun _ _ _ => rfl) (fun b _ hb => hb) _ _ H)
  have HSX := Lib.hid (show Lies w (fun b => b < w.heap.size) o hx from Lies.keep (fun _ _ _ => rfl) (fun b _ hb => hb) _ _ HX)
  have HSH := Lib.hid hsh
  have HXS := Lib.hid hxs
  have HA := Lib.hid hA
  have HM := Lib.hid hm
  have HCA := Lib.hid hcn
  have HCX := Lib.hid hxc
  have HKR := Lib.hid hK
  have HKZ := Lib.hid hkz
  have HKK := Lib.hid hkk
  have HT0 := Lib.hid (TB.start w h hx)
  obtain ⟨ok, on, os, ol, ks2, f2⟩ := o
  have hoL := HX
  simp only [Lies] at hoL
  obtain ⟨⟨o1, o2, o3, o4, o5, o6⟩, ⟨-, -, -, o7, -⟩, -⟩ := hoL
  have HOE := Lib.hid (show hx.k = ok ∧ hx.lf = f2.length ∧ ks2.length = f2.length ∧ ∀ x ∈ ks2, x.size ≤ maxLen from ⟨o1, o5, o6, o7⟩)
  clear H HX hsh hcn hxs hxc hA hm hK hkz hkk o1 o2 o3 o4 o5 o6 o7
  unfold Hd.val at *
  go_enter Try.func55, Try.ntmps55
  go_upto_region 1 with fail
  generalize (((w.alloc (Obj.cells #[.int .i64 h.k, .int .i64 h.n, .string h.s, .slice h.A h.la h.lc, .slice h.F h.lf h.fc] 25)).alloc (Obj.cells #[.int .i64 hx.k, .int .i64 hx.n, .string hx.s, .slice hx.A hx.la hx.lc, .slice hx.F hx.lf hx.fc] 25)).alloc (Obj.cells #[.int .i64 0, .int .i64 0, .string { data := #[] }, .slice none 0 0, .slice none 0 0] 25)) = w3 at HT0 ⊢
  have hs3 := HT0.out.sz
  have x0 := HT0.out.bx.2 0 _ rfl
  have x1 := HT0.out.bx.2 1 _ rfl
  have x2 := HT0.out.bx.2 2 _ rfl
  have x3 := HT0.out.bx.2 3 _ rfl
  have x4 := HT0.out.bx.2 4 _ rfl
  by_cases hk5 : hx.k = 5
  case neg =>
    have hk' : (hx.k != 5) = true := by simpa using hk5
    have HNO : Hid (¬ MArg a p (.mk ok on os ol ks2 f2)) := Lib.hid (fun q => hk5 (HOE.out.1.trans q.1))
    clear hk5
    have z0 := HT0.out.res.cell (show 0 < 5 by decide)
    have z1 := HT0.out.res.cell (show 1 < 5 by decide)
    have z2 := HT0.out.res.cell (show 2 < 5 by decide)
    have z3 := HT0.out.res.cell (show 3 < 5 by decide)
    have z4 := HT0.out.res.cell (show 4 < 5 by decide)
    have g0 := HT0.out.res.frozen 0
    have g1 := HT0.out.res.frozen 1
    have g2 := HT0.out.res.frozen 2
    have g3 := HT0.out.res.frozen 3
    have g4 := HT0.out.res.frozen 4
    simp only [hdAt, Hd.cells, List.getD_cons_succ, List.getD_cons_zero] at z0 z1 z2 z3 z4
    go_wp2_with fail
    refine bodyPost_ret (v := .tuple #[.agg #[.int .i64 0, .int .i64 0, .string ⟨#[]⟩, .slice none 0 0, .slice none 0 0], .int .i64 1]) (by simp [results, Try.results55, go_sem, z0, z1, z2, z3, z4]; try rfl) rfl ?_
    exact ⟨zeroVa, zeroHd, 1, rfl, res_below HT0.out.bel (by omega), lies_zero _ _, .inl ⟨HNO.out, rfl, rfl⟩⟩
  have hk' : (hx.k != 5) = false := by simp [hk5]
  obtain rfl : ok = 5 := HOE.out.1.symm.trans hk5
  clear hk5
  have KX := Lib.hid (rightref (.mk 5 on os ol ks2 f2) _ hx w3 (HSX.out.below HT0.out.bel (Nat.le_refl _)) HXS.out)
  unfold Hd.val at KX
  go_wp2_with fail
  refine KX.out.mono ?_
  rintro e w2 ⟨r, rfl, hr, hb2⟩
  have HT2 := Lib.hid (HT0.out.go hb2 (by omega))
  have HR := Lib.hid hr
  have hs2 := hb2.size
  clear hb2 hr KX HT0 x0 x1 x2 x3 x4 hk'
  cases r
  · have HNO : Hid (¬ MArg a p (.mk 5 on os ol ks2 f2)) := Lib.hid (fun q => absurd (HR.out.2 (q.2.2.2 _ (by simp))) (by decide))
    have z0 := HT2.out.res.cell (show 0 < 5 by decide)
    have z1 := HT2.out.res.cell (show 1 < 5 by decide)
    have z2 := HT2.out.res.cell (show 2 < 5 by decide)
    have z3 := HT2.out.res.cell (show 3 < 5 by decide)
    have z4 := HT2.out.res.cell (show 4 < 5 by decide)
    have g0 := HT2.out.res.frozen 0
    have g1 := HT2.out.res.frozen 1
    have g2 := HT2.out.res.frozen 2
    have g3 := HT2.out.res.frozen 3
    have g4 := HT2.out.res.frozen 4
    simp only [hdAt, Hd.cells, List.getD_cons_succ, List.getD_cons_zero] at z0 z1 z2 z3 z4
    go_wp2_with fail
    refine bodyPost_ret (v := .tuple #[.agg #[.int .i64 0, .int .i64 0, .string ⟨#[]⟩, .slice none 0 0, .slice none 0 0], .int .i64 1]) (by simp [results, Try.results55, go_sem, z0, z1, z2, z3, z4]; try rfl) rfl ?_
    exact ⟨zeroVa, zeroHd, 1, rfl, res_below HT2.out.bel (by omega), lies_zero _ _, .inl ⟨HNO.out, rfl, rfl⟩⟩
  have HOR : Hid ((Va.mk 5 on os ol ks2 f2).R 12) := Lib.hid (HR.out.1 rfl)
  clear HR
  have KF := Lib.hid (may_refS (fun b => b < w.heap.size) a h w2 A m c p (fun b hb => by omega) (HS.out.below HT2.out.bel (Nat.le_refl _)) HSH.out (Nat.le_trans HCA.out (by decide)) (HA.out.below HT2.out.bel (Nat.le_refl _)) HM.out hp HKK.out)
  unfold Hd.val at KF
  have q0 := HT2.out.bv.2 0 _ rfl
  have q1 := HT2.out.bv.2 1 _ rfl
  have q2 := HT2.out.bv.2 2 _ rfl
  have q3 := HT2.out.bv.2 3 _ rfl
  have q4 := HT2.out.bv.2 4 _ rfl
  go_wp2_with fail
  refine KF.out.mono ?_
  rintro e w1 ⟨b, h', er, rfl, hb1, hl1, ho1⟩
  have HO1 := Lib.hid ho1
  have HL1 := Lib.hid hl1
  have HT1 := Lib.hid (HT2.out.go hb1 (by omega))
  have hs1 := hb1.size
  clear hb1 hl1 ho1 KF HT2 q0 q1 q2 q3 q4
  go_upto_region 4 with fail
  have hb4 := one_alloc w1 (Obj.cells #[.int .i64 h'.k, .int .i64 h'.n, .string h'.s, .slice h'.A h'.la h'.lc, .slice h'.F h'.lf h'.fc] 25)
  have hcx : (w1.alloc (Obj.cells #[.int .i64 h'.k, .int .i64 h'.n, .string h'.s, .slice h'.A h'.la h'.lc, .slice h'.F h'.lf h'.fc] 25)).rowIs w1.heap.size 25 5 (hdAt h') := hdAt_row (heap_alloc_new _ _)
  generalize w1.alloc (Obj.cells #[.int .i64 h'.k, .int .i64 h'.n, .string h'.s, .slice h'.A h'.la h'.lc, .slice h'.F h'.lf h'.fc] 25) = w4 at hb4 hcx ⊢
  have HT4 := Lib.hid (HT1.out.go hb4 HT1.out.sz)
  have HL4 := Lib.hid (HL1.out.below hb4 (Nat.le_refl _))
  have HCX4 := Lib.hid hcx
  have hxl := hcx.lt
  have hs4 := hb4.size
  have x0 := hcx.cell (show 0 < 5 by decide)
  have x1 := hcx.cell (show 1 < 5 by decide)
  have x2 := hcx.cell (show 2 < 5 by decide)
  have x3 := hcx.cell (show 3 < 5 by decide)
  have x4 := hcx.cell (show 4 < 5 by decide)
  simp only [hdAt, Hd.cells, List.getD_cons_succ, List.getD_cons_zero] at x0 x1 x2 x3 x4
  clear hb4 hcx HT1 HL1
  by_cases he : er = 0
  case neg =>
    have he' := bq_no he
    have HNO : Hid (MrgC a p (.mk 5 on os ol ks2 f2) keys er zeroVa) := Lib.hid (by
      rcases HO1.out with ⟨h1, h2, _⟩ | ⟨h1, h2, h3, h4, _⟩ | ⟨_, _, _, h1⟩
      · exact .inl ⟨fun q => h1 ⟨q.2.1, q.2.2.1⟩, h2, rfl⟩
      · exact .inr (.inl ⟨⟨rfl, h1, h2, fun x hx => by simp at hx; subst hx; exact HOR.out⟩, h3, h4, rfl⟩)
      · exact absurd h1 he)
    clear he
    have z0 := HT4.out.res.cell (show 0 < 5 by decide)
    have z1 := HT4.out.res.cell (show 1 < 5 by decide)
    have z2 := HT4.out.res.cell (show 2 < 5 by decide)
    have z3 := HT4.out.res.cell (show 3 < 5 by decide)
    have z4 := HT4.out.res.cell (show 4 < 5 by decide)
    have g0 := HT4.out.res.frozen 0
    have g1 := HT4.out.res.frozen 1
    have g2 := HT4.out.res.frozen 2
    have g3 := HT4.out.res.frozen 3
    have g4 := HT4.out.res.frozen 4
    simp only [hdAt, Hd.cells, List.getD_cons_succ, List.getD_cons_zero] at z0 z1 z2 z3 z4
    go_wp2_with fail
    refine bodyPost_ret (v := .tuple #[.agg #[.int .i64 0, .int .i64 0, .string ⟨#[]⟩, .slice none 0 0, .slice none 0 0], .int .i64 er]) (by simp [results, Try.results55, go_sem, z0, z1, z2, z3, z4]; try rfl) rfl ?_
    exact ⟨zeroVa, zeroHd, er, rfl, res_below HT4.out.bel (by omega), lies_zero _ _, HNO.out⟩
  subst he
  have HYES : Hid (MArg a p (.mk 5 on os ol ks2 f2) ∧ goV a p = some b) := Lib.hid (by
    rcases HO1.out with ⟨_, h1, _⟩ | ⟨_, _, _, h1, _⟩ | ⟨h1, h2, h3, _⟩
    · exact absurd h1 (by decide)
    · exact absurd h1 (by decide)
    · exact ⟨⟨rfl, h1, h2, fun x hx => by simp at hx; subst hx; exact HOR.out⟩, h3⟩)
  clear HO1
  have HBR := Lib.hid (goV_R HYES.out.1.2.1 HYES.out.2)
  have HBS := Lib.hid (goV_sh HSH.out HYES.out.2)
  have HBC := Lib.hid (goV_cnt HCA.out HYES.out.2)
  obtain ⟨bk, bnn, bs, l, ks, f⟩ := b
  have hL := HL4.out
  simp only [Lies] at hL
  obtain ⟨⟨e1, e2, e3, e4, e5, e6⟩, ⟨-, -, -, e7, -⟩, -⟩ := hL
  have HE := Lib.hid (show h'.k = bk ∧ h'.n = bnn ∧ h'.s = bs ∧ h'.la = l.length ∧ h'.lf = f.length ∧ ks.length = f.length ∧ ∀ x ∈ ks, x.size ≤ maxLen from ⟨e1, e2, e3, e4, e5, e6, e7⟩)
  clear e1 e2 e3 e4 e5 e6 e7
  by_cases hk : h'.k = 5
  case neg =>
    have hk' : (h'.k != 5) = true := by simpa using hk
    have HK := Lib.hid hk
    clear hk
    have z0 := HT4.out.res.cell (show 0 < 5 by decide)
    have z1 := HT4.out.res.cell (show 1 < 5 by decide)
    have z2 := HT4.out.res.cell (show 2 < 5 by decide)
    have z3 := HT4.out.res.cell (show 3 < 5 by decide)
    have z4 := HT4.out.res.cell (show 4 < 5 by decide)
    have g0 := HT4.out.res.frozen 0
    have g1 := HT4.out.res.frozen 1
    have g2 := HT4.out.res.frozen 2
    have g3 := HT4.out.res.frozen 3
    have g4 := HT4.out.res.frozen 4
    simp only [hdAt, Hd.cells, List.getD_cons_succ, List.getD_cons_zero] at z0 z1 z2 z3 z4
    go_wp2_with fail
    refine bodyPost_ret (v := .tuple #[.agg #[.int .i64 0, .int .i64 0, .string ⟨#[]⟩, .slice none 0 0, .slice none 0 0], .int .i64 9]) (by simp [results, Try.results55, go_sem, z0, z1, z2, z3, z4]; try rfl) rfl ?_
    exact ⟨zeroVa, zeroHd, 9, rfl, res_below HT4.out.bel (by omega), lies_zero _ _, .inr (.inr (.inl ⟨_, HYES.out.1, HYES.out.2, fun e => HK.out (HE.out.1.trans e), rfl, rfl⟩))⟩
  have hk' : (h'.k != 5) = false := by simp [hk]
  obtain rfl : bk = 5 := HE.out.1.symm.trans hk
  obtain ⟨rfl, rfl, rfl, hnd⟩ := obj_R HBR.out
  obtain ⟨rfl, rfl, rfl, hnd2⟩ := obj_R HOR.out
  have HND := Lib.hid hnd
  have HK5 := Lib.hid hk
  have hfl : f.length ≤ 60 := by have h1 := len_le_cntL f; have h2 := HBC.out; simp only [Va.cnt] at h2; omega
  have hfl2 : f2.length ≤ 60 := by have h1 := len_le_cntL f2; have h2 := HCX.out; simp only [Va.cnt] at h2; omega
  have hlf : h'.lf = f.length := HE.out.2.2.2.2.1
  have hlf2 : hx.lf = f2.length := HOE.out.2.1
  obtain ⟨us0, us, -, hul, -, -, hrF, hLF⟩ := HL4.out.rows
  have hzl : (ks.zip us).length = h'.lf := by rw [List.length_zip, hul, HE.out.2.2.2.2.2.1, Nat.min_self, hlf]
  have HSF : Hid (SrcAt w4 h'.F h'.lf ((ks.zip us).flatMap pcells)) := Lib.hid (by rw [← hzl]; exact src_of_rowF hrF)
  have HFL : Hid (((ks.zip us).flatMap pcells).length = h'.lf * 6) := Lib.hid (by rw [← hzl]; exact flat_lenF _)
  have HLFL := Lib.hid hLF
  have HUL := Lib.hid hul
  have HLF := Lib.hid hlf
  have HLF2 := Lib.hid hlf2
  have hlm : h'.lf ≤ 60 := by omega
  have HKY := Lib.hid (HL4.out.op.keys HE.out.2.2.2.2.2.1)
  have HOP := Lib.hid ((HSX.out.below HT4.out.bel (Nat.le_refl _)).op)
  clear hk hnd hnd2 hlf hlf2 hrF hLF hzl hul
  go_upto_region 9 with fail
  have hbo := one_alloc w4 (Obj.cells #[.int .i64 5, .int .i64 0, .string { data := #[] }, .slice none 0 0, .slice none 0 0] 25)
  have hro : (w4.alloc (Obj.cells #[.int .i64 5, .int .i64 0, .string { data := #[] }, .slice none 0 0, .slice none 0 0] 25)).rowIs w4.heap.size 25 5 (hdAt ⟨5, 0, ByteArray.empty, none, 0, 0, none, 0, 0⟩) := hdAt_row (h := ⟨5, 0, ByteArray.empty, none, 0, 0, none, 0, 0⟩) (heap_alloc_new _ _)
  have hso : (w4.alloc (Obj.cells #[.int .i64 5, .int .i64 0, .string { data := #[] }, .slice none 0 0, .slice none 0 0] 25)).heap.size = w4.heap.size + 1 := by simp
  generalize w4.alloc (Obj.cells #[.int .i64 5, .int .i64 0, .string { data := #[] }, .slice none 0 0, .slice none 0 0] 25) = wo at hbo hro hso ⊢
  have HBO := Lib.hid hbo
  have HRO := Lib.hid hro
  have HTO := Lib.hid (HT4.out.go hbo (by omega))
  have hol : w4.heap.size < wo.heap.size := by omega
  have X4 := (hbo.cell (p := ⟨w1.heap.size, 4, none⟩) hxl).trans x4
  have cO := hro.cell (show 4 < 5 by decide)
  have fO := hro.frozen 4
  have HO0 := Lib.hid (World.ownsRow_nil wo wo.heap.size 36 6)
  have HSLo := Lib.hid (HSF.out.below hbo (Nat.le_refl _))
  simp only [hdAt, Hd.cells, List.getD_cons_succ, List.getD_cons_zero] at cO
  clear hbo hro x0 x1 x2 x3 x4 hk'
  go_upto_region 10 with (at_builtin; refine wpList_append_may wo rfl _ _ 23 rfl wo.heap.size 36 i6 _ 6 96 Try.underlying23 hj0 hy0 hy1 hy2 rfl (by decide) (.slice none 0 0) 0 [] rfl HO0.out h'.F h'.lf h'.fc ((ks.zip us).flatMap pcells) rfl HFL.out HSLo.out (flat_oneF _) (by unfold maxLen; omega) (by omega) (Nat.le_refl _) ?_; intro v1 w5 hown5 hgrow5 hat5; rw [Nat.zero_add, List.nil_append] at hown5; obtain ⟨A1, c1, rfl⟩ := own_slice hown5; have cO5 := cur_gr cO (Below.refl _ _) hgrow5 (by simp [Value.ownBlock]); have fO5 := cur_grf cO fO (Below.refl _ _) hgrow5 (by simp [Value.ownBlock]))
  have hb5 : Below wo.heap.size wo w5 := (Below.refl _ _).grown hgrow5 (Nat.le_refl _) (fun g hg => by simp [Value.ownBlock] at hg)
  have hr5 := rowIs_below HRO.out hb5 hol
  have hs5 := hb5.size
  have hr6 : (w5.setCell ⟨w4.heap.size, 4, none⟩ (.slice A1 h'.lf c1)).rowIs w4.heap.size 25 5 (hdAt ⟨5, 0, ByteArray.empty, none, 0, 0, A1, h'.lf, c1⟩) := out_setF _ hr5
  have hk6 : ∀ b, b ≠ w4.heap.size → (w5.setCell ⟨w4.heap.size, 4, none⟩ (.slice A1 h'.lf c1)).heap[b]? = w5.heap[b]? := fun b hb => Below.heap_setCell _ _ _ _ hb
  have hs6 : (w5.setCell ⟨w4.heap.size, 4, none⟩ (.slice A1 h'.lf c1)).heap.size = w5.heap.size := by simp
  have hkp6 : Kp w4.heap.size wo (w5.setCell ⟨w4.heap.size, 4, none⟩ (.slice A1 h'.lf c1)) := (Kp.of_below hb5 hol).setN _
  generalize (w5.setCell ⟨w4.heap.size, 4, none⟩ (.slice A1 h'.lf c1)) = w6 at hr6 hk6 hs6 hkp6 ⊢
  have HO6 := Lib.hid (own_block hown5 (fun g hg => hk6 g (by have := (own_lo hown5 hg).1; omega)) : w6.ownsRow wo.heap.size 36 6 (.slice A1 h'.lf c1) h'.lf ((ks.zip us).flatMap pcells))
  have HL6 : Hid (LiesL w6 (fun b => b < w.heap.size) f us) := Lib.hid (LiesL_imp HLFL.out fun x _ u hl => Lies.keep (fun q hq hlt => World.cell?_of_block ((hk6 _ (by omega)).trans ((hb5.block _ (by omega)).trans (HBO.out.block _ (by omega))))) (fun b hb _ => hb) _ _ hl)
  have HLZ0 := Lib.hid (doneStart (O := w4.heap.size) (f2 := f2) (ks := ks) hkp6 hr6 HO6.out HLF.out HE.out.2.2.2.2.2.1 HUL.out HL6.out (fun b hb => by omega))
  clear hb5 hr5 hs5 hr6 hk6 hs6 hown5 hgrow5 hat5 cO fO X4 cO5 fO5 HRO HO0 HSLo HO6 hkp6
  go_upto_region 11 with fail
  go_loopw [13] (fun iv wr => ∃ (i : Nat) (vs : List (ByteArray × Hd)) (A' : Option Addr) (c' : Nat), iv = .int .i64 i ∧ i ≤ f2.length ∧ vs.map Prod.fst = ks ++ ks2.take i ∧ (∀ x ∈ ks2.take i, x ∉ ks) ∧ LoopZF 5 wo w4.heap.size (fun b => b < w.heap.size) (f ++ f2) (f.length + i) wr vs A' c') (fun iv _ => f2.length - (intOf iv).toNat)
  case atStart => exact ⟨0, ks.zip us, A1, c1, rfl, Nat.zero_le _, by rw [List.map_fst_zip (by have := HUL.out; have := HE.out.2.2.2.2.2.1; omega)]; simp, by simp, by have h0 := HLZ0.out; rw [HLF.out] at h0; exact h0⟩
  case round =>
    clear HLZ0 HL6
    obtain ⟨i, vs, A', c', rfl, hi, hus, hno, hLZ⟩ := hrel
    have HUS := Lib.hid hus
    have HNO := Lib.hid hno
    have HLZ := Lib.hid hLZ
    have hkp := hLZ.kp
    have hOr := hLZ.row.lt
    have hszr := hLZ.kp.size
    have cO := hLZ.row.cell (show 4 < 5 by decide)
    have fO := hLZ.row.frozen 4
    have HRO := Lib.hid (show some w4.heap.size ≠ (Value.slice A' (f.length + i) c').ownBlock from fun e => by have := own_lo hLZ.own e.symm; omega)
    have hblk : ∀ b, b < w4.heap.size → wr.heap[b]? = w4.heap[b]? := fun b hb => (hkp.block b (by omega) (by omega)).trans (HBO.out.block b hb)
    have hb4r : Below w4.heap.size w4 wr := HBO.out.trans (hkp.bel.mono (by omega))
    have HB4r := Lib.hid hb4r
    have HTr := Lib.hid (HT4.out.go hb4r (by omega))
    have hcxr := rowIs_below HCX4.out hb4r hxl
    have HCXr := Lib.hid hcxr
    have y4 := HTr.out.bx.2 4 _ rfl
    have hbl : w.heap.size + 1 < wr.heap.size := by omega
    simp only [hdAt, Hd.cells, List.getD_cons_succ, List.getD_cons_zero] at cO
    rw [HLF2.out] at y4
    clear hus hno hLZ hkp hblk hb4r
    by_cases hlt : i < f2.length
    · obtain ⟨xx, hxx⟩ : ∃ xx, f2[i]? = some xx := ⟨f2[i], List.getElem?_eq_getElem hlt⟩
      obtain ⟨ad2, u, key, hA2, hSad, hab, hkj, hkz, hLu, hat2⟩ := HOP.out.K i xx hxx
      obtain ⟨k0, k1, k2, k3, k4, k5⟩ := hat2.below HB4r.out hab
      rw [hA2] at y4
      clear hA2
      have hbl2 : (ad2.add (i * 6)).block < wr.heap.size := by omega
      have hxlr : w1.heap.size < wr.heap.size := by omega
      have x0 := hcxr.cell (show 0 < 5 by decide)
      have x1 := hcxr.cell (show 1 < 5 by decide)
      have x2 := hcxr.cell (show 2 < 5 by decide)
      have x3 := hcxr.cell (show 3 < 5 by decide)
      have x4 := hcxr.cell (show 4 < 5 by decide)
      simp only [hdAt, Hd.cells, List.getD_cons_succ, List.getD_cons_zero] at x0 x1 x2 x3 x4
      have QK : ∀ x : BlwBy wr, x.now.cell? (ad2.add (i * 6)) = some (.string key) := fun x => x.cellA hbl2 k0
      have B0 : ∀ x : BlwBy wr, x.now.cell? ⟨w1.heap.size, 0, none⟩ = some (.int .i64 h'.k) := fun x => x.cell hxlr x0
      have B1 : ∀ x : BlwBy wr, x.now.cell? ⟨w1.heap.size, 1, none⟩ = some (.int .i64 h'.n) := fun x => x.cell hxlr x1
      have B2 : ∀ x : BlwBy wr, x.now.cell? ⟨w1.heap.size, 2, none⟩ = some (.string h'.s) := fun x => x.cell hxlr x2
      have B3 : ∀ x : BlwBy wr, x.now.cell? ⟨w1.heap.size, 3, none⟩ = some (.slice h'.A h'.la h'.lc) := fun x => x.cell hxlr x3
      have B4 : ∀ x : BlwBy wr, x.now.cell? ⟨w1.heap.size, 4, none⟩ = some (.slice h'.F h'.lf h'.fc) := fun x => x.cell hxlr x4
      have B5 : ∀ x : BlwBy wr, x.now.cell? ⟨w.heap.size + 1, 4, none⟩ = some (.slice (some ad2) f2.length hx.fc) := fun x => x.cell hbl y4
      have KM : Hid (∀ x : BlwBy wr, Calls Try.prog 30 #[.agg #[.int .i64 h'.k, .int .i64 h'.n, .string h'.s, .slice h'.A h'.la h'.lc, .slice h'.F h'.lf h'.fc], .string key] x.now fun e w'' => e = .returned (.int .i64 (plI ks key)) ∧ ∃ q : BlwBy wr, w'' = q.now) := Lib.hid (fun x => Calls.below_of (at_pl ks key h' x.now (by rw [HLF.out, HE.out.2.2.2.2.2.1]) (by have := HE.out.2.2.2.2.2.1; omega) ((HKY.out.below HB4r.out (Nat.le_refl _)).below x.bel (Nat.le_refl _))))
      have HKJ := Lib.hid hkj
      have HXX := Lib.hid hxx
      have HLu := Lib.hid hLu
      have HAT := Lib.hid hat2
      have HAB := Lib.hid hab
      have Y4 := Lib.hid y4
      clear hkj hxx hLu hat2 hcxr x0 x1 x2 x3 x4 k1 k2 k3 k4 k5
      go_wp2_with fail
      refine wp_quiet_below (by kernel_rfl) (by kernel_rfl) ?_
      repeat (quiet_step (first | (go_at_call 30; exact KM.out _)))
      refine wpQuiet_nil ?_
      intro w9 hw'
      have hb9 : Below wr.heap.size wr w9 := by obtain ⟨⟨wx, hbx⟩, hw''⟩ := hw'; rw [hw'']; exact hbx
      clear hw'
      have HB9 := Lib.hid hb9
      have hs9 := hb9.size
      have HBW := Lib.hid (HB4r.out.trans (hb9.mono (by omega)))
      have cO9 := (hb9.cell (p := ⟨w4.heap.size, 4, none⟩) hOr).trans cO
      have fO9 := (hb9.frozen (p := ⟨w4.heap.size, 4, none⟩) hOr).trans fO
      have d4 := (hb9.cell (p := ⟨w.heap.size + 1, 4, none⟩) hbl).trans y4
      have hO9 : w4.heap.size < w9.heap.size := by omega
      have HT9 := Lib.hid (HTr.out.go hb9 (by omega))
      clear QK B0 B1 B2 B3 B4 B5 KM y4 k0 hb9
      by_cases hin : key ∈ ks
      · have hnn2 : ¬ plI ks key < 0 := by
          rw [plI_neg]
          exact fun q => q hin
        have hng : 0 ≤ plI ks key := by omega
        have HTW : Hid (Two (.mk 5 0 ByteArray.empty [] ks f) (.mk 5 0 ByteArray.empty [] ks2 f2) keys) := Lib.hid (.inl ⟨key, List.mem_of_getElem? HKJ.out, hin⟩)
        generalize plI ks key = pn at hnn2 hng ⊢
        clear hin cO9 fO9 d4
        have z0 := HT9.out.res.cell (show 0 < 5 by decide)
        have z1 := HT9.out.res.cell (show 1 < 5 by decide)
        have z2 := HT9.out.res.cell (show 2 < 5 by decide)
        have z3 := HT9.out.res.cell (show 3 < 5 by decide)
        have z4 := HT9.out.res.cell (show 4 < 5 by decide)
        have g0 := HT9.out.res.frozen 0
        have g1 := HT9.out.res.frozen 1
        have g2 := HT9.out.res.frozen 2
        have g3 := HT9.out.res.frozen 3
        have g4 := HT9.out.res.frozen 4
        simp only [hdAt, Hd.cells, List.getD_cons_succ, List.getD_cons_zero] at z0 z1 z2 z3 z4
        go_wp2_with fail
        refine bodyPost_ret (v := .tuple #[.agg #[.int .i64 0, .int .i64 0, .string ⟨#[]⟩, .slice none 0 0, .slice none 0 0], .int .i64 7]) (by simp [results, Try.results55, go_sem, z0, z1, z2, z3, z4]; try rfl) rfl ?_
        exact ⟨zeroVa, zeroHd, 7, rfl, res_below HT9.out.bel (by omega), lies_zero _ _, .inr (.inr (.inr (.inl ⟨_, HYES.out.1, HYES.out.2, rfl, HTW.out, rfl, rfl⟩)))⟩
      · have hnn2 : plI ks key < 0 := plI_neg.2 hin
        have HNX := Lib.hid (noClash_next HNO.out HKJ.out hin)
        have hat2 := HAT.out
        have hab := HAB.out
        obtain ⟨k0, k1, k2, k3, k4, k5⟩ := hat2.below HBW.out hab
        have HNK : Hid (vs.map Prod.fst ++ [key] = ks ++ ks2.take (i + 1)) := Lib.hid (by rw [HUS.out, List.take_add_one, HKJ.out, List.append_assoc]; rfl)
        generalize plI ks key = pn at hnn2 ⊢
        have HY := Lib.hid (show (f ++ f2)[f.length + i]? = some xx by
          rw [List.getElem?_append_right (by omega), Nat.add_sub_cancel_left]
          exact HXX.out)
        clear hin hat2
        have HSO : Hid (SO (w.heap.size + 1) (.slice (some ad2) f2.length hx.fc) (ad2.add (i * 6)) key u w9.drew) := Lib.hid ⟨d4, k0, k1, k2, k3, k4, k5⟩
        have HQ := Lib.hid (fun o : Obj => show Below wr.heap.size wr (w9.drew.alloc o) from HB9.out.trans ((((Below.refl _ _).drew).alloc (show w9.heap.size ≤ w9.drew.heap.size from Nat.le_refl _) o).mono hs9))
        have HRC := Lib.hid (show some (w.heap.size + 1) ≠ (Value.slice A' (f.length + i) c').ownBlock from fun e => by have := own_lo HLZ.out.own e.symm; omega)
        have HRX := Lib.hid (show some (ad2.add (i * 6)).block ≠ (Value.slice A' (f.length + i) c').ownBlock from fun e => by have := own_lo HLZ.out.own e.symm; omega)
        have hCW : w.heap.size + 1 ≠ w4.heap.size := by omega
        have hXW : (ad2.add (i * 6)).block ≠ w4.heap.size := by omega
        go_wp2_with fail
        have hld : ldF15 = Op.load 23 (Operand.tmp 61) := rfl
        rw [show Op.load 23 (Operand.tmp 61) = ldF15 from rfl]
        go_region_held3 (fun w' => w'.cell? ⟨w.heap.size + 1, 4, none⟩ = some (.slice (some ad2) f2.length hx.fc) ∧ w'.cell? (ad2.add (i * 6)) = some (.string key) ∧ w'.cell? ⟨(ad2.add (i * 6)).block, (ad2.add (i * 6)).off + 1, none⟩ = some (.int .i64 u.k) ∧ w'.cell? ⟨(ad2.add (i * 6)).block, (ad2.add (i * 6)).off + 2, none⟩ = some (.int .i64 u.n) ∧ w'.cell? ⟨(ad2.add (i * 6)).block, (ad2.add (i * 6)).off + 3, none⟩ = some (.string u.s) ∧ w'.cell? ⟨(ad2.add (i * 6)).block, (ad2.add (i * 6)).off + 4, none⟩ = some (.slice u.A u.la u.lc) ∧ w'.cell? ⟨(ad2.add (i * 6)).block, (ad2.add (i * 6)).off + 5, none⟩ = some (.slice u.F u.lf u.fc))
          (first
            | go_keep
            | (exact SO.alloc HSO.out _)
            | (exact SO.grown (SO.alloc HSO.out _) hgrow3 HRC.out HRX.out)
            | (exact SO.set (SO.grown (SO.alloc HSO.out _) hgrow3 HRC.out HRX.out) hCW hXW _)
            | skip)
          (first
            | (refine step_append_lies _ (by rfl) _ _ _ (by rfl) wo.heap.size 36 i6 _ 6 96 Try.underlying23 hj0 hy0 hy1 hy2 rfl (by decide) (.slice A' (f.length + i) c') (f.length + i) (vs.flatMap pcells) (by rfl) (own_below HLZ.out.own (HQ.out _) (Nat.le_refl _))
                ⟨w9.heap.size, 0, none⟩ 1 1 (pcells (key, u)) (by rfl) (by rfl) (World.news_of_block (heap_alloc_new w9.drew _)) (by simp [pcells, Hd.cells, Value.oneCell']) (by decide) (by unfold maxLen; omega) (by omega) (Nat.le_trans HLZ.out.kp.size (HQ.out _).size) (w9.heap.size + 1) (by simp) ?_; intro g cap w3 hown3 hgrow3 hat3 hlt3; have cO3 := cur_gr cO (HQ.out _) hgrow3 HRO.out; have fO3 := cur_grf cO fO (HQ.out _) hgrow3 HRO.out)
            | fail)
        all_goals go_wp2_with fail
        all_goals
          refine ⟨⟨i + 1, vs ++ [(key, u)], _, _, by go_num, by omega, by rw [List.map_append]; exact HNK.out, HNX.out, HLZ.out.step (by omega) (fun b hb => by omega) setc4 HY.out (HQ.out _) ?_ hown3 hgrow3 (hat3.imp_right fun e => e.trans (World.size_alloc _ _).symm)⟩, by simp [intOf]; omega⟩
          refine Lies.keep (fun q hq hl => (HBW.out.trans ((((Below.refl _ _).drew).alloc (show w9.heap.size ≤ w9.drew.heap.size from Nat.le_refl _) _).mono HBW.out.size)).cell hl) (fun b hb hl => ⟨.inl hb, ?_, fun e => ?_⟩) _ _ HLu.out
          · have := HBW.out.size; have h3 : w9.drew.heap.size = w9.heap.size := rfl; simp; omega
          · have := own_lo HLZ.out.own e; omega
    · obtain rfl : i = f2.length := by omega
      have HNC : Hid (¬ Clash ks ks2) := Lib.hid (by
        have h1 := HNO.out
        rw [List.take_of_length_le (by have := HOE.out.2.2.1; omega)] at h1
        rintro ⟨key, h2, h3⟩
        exact h1 key h2 h3)
      have HUK : Hid (vs.map Prod.fst = ks ++ ks2) := Lib.hid (by have h1 := HUS.out; rwa [List.take_of_length_le (by have := HOE.out.2.2.1; omega)] at h1)
      clear HUS HNO hlt hi hcxr
      go_wp2_with fail
      refine (twice_ref6 keys K kc wr (by omega) (HKR.out.below HTr.out.bel (Nat.le_refl _))).mono ?_
      rintro e w7 ⟨r, rfl, hr, hb7⟩
      have HR := Lib.hid hr
      have HT7 := Lib.hid (HTr.out.go hb7 (by omega))
      have HB7 := Lib.hid hb7
      have hs7 := hb7.size
      clear hr hb7 y4
      cases r
      case true =>
        have HTW : Hid (Two (.mk 5 0 ByteArray.empty [] ks f) (.mk 5 0 ByteArray.empty [] ks2 f2) keys) := Lib.hid (.inr (HR.out.1 rfl))
        have z0 := HT7.out.res.cell (show 0 < 5 by decide)
        have z1 := HT7.out.res.cell (show 1 < 5 by decide)
        have z2 := HT7.out.res.cell (show 2 < 5 by decide)
        have z3 := HT7.out.res.cell (show 3 < 5 by decide)
        have z4 := HT7.out.res.cell (show 4 < 5 by decide)
        have g0 := HT7.out.res.frozen 0
        have g1 := HT7.out.res.frozen 1
        have g2 := HT7.out.res.frozen 2
        have g3 := HT7.out.res.frozen 3
        have g4 := HT7.out.res.frozen 4
        simp only [hdAt, Hd.cells, List.getD_cons_succ, List.getD_cons_zero] at z0 z1 z2 z3 z4
        go_wp2_with fail
        refine bodyPost_ret (v := .tuple #[.agg #[.int .i64 0, .int .i64 0, .string ⟨#[]⟩, .slice none 0 0, .slice none 0 0], .int .i64 7]) (by simp [results, Try.results55, go_sem, z0, z1, z2, z3, z4]; try rfl) rfl ?_
        exact ⟨zeroVa, zeroHd, 7, rfl, res_below HT7.out.bel (by omega), lies_zero _ _, .inr (.inr (.inr (.inl ⟨_, HYES.out.1, HYES.out.2, rfl, HTW.out, rfl, rfl⟩)))⟩
      have HNDK : Hid keys.Nodup := Lib.hid (Classical.byContradiction fun q => by have := HR.out.2 q; cases this)
      have HNT : Hid (¬ Two (.mk 5 0 ByteArray.empty [] ks f) (.mk 5 0 ByteArray.empty [] ks2 f2) keys) := Lib.hid (fun q => by
        rcases q with q | q
        · exact HNC.out q
        · exact q HNDK.out)
      clear HR
      have hbd : Below w7.heap.size w7 w7.drew := (Below.refl _ _).drew
      have HTD := Lib.hid (HT7.out.go hbd (by omega))
      have HBrD := Lib.hid (HB7.out.trans (hbd.mono hs7))
      have HXR : Hid ((Va.mk 5 0 ByteArray.empty [] (ks ++ ks2) (f ++ f2)).R 12) := Lib.hid (cat_all HBR.out HOR.out HNC.out)
      have HJS := Lib.hid (cat_sh HBS.out HXS.out HBC.out HCX.out)
      have HALL := Lib.hid (ord_all (keys := keys) HNDK.out (show (ks ++ ks2).length = (f ++ f2).length by simp [HE.out.2.2.2.2.2.1, HOE.out.2.2.1]) HXR.out)
      have HLX : Hid (Lies w7.drew (fun b => (b < w.heap.size ∨ wo.heap.size ≤ b) ∧ b < w7.drew.heap.size) (.mk 5 0 ByteArray.empty [] (ks ++ ks2) (f ++ f2)) ⟨5, 0, ByteArray.empty, none, 0, 0, A', f.length + f2.length, c'⟩) := Lib.hid (Lies.keep (fun q hq hl => HBrD.out.cell hl) (fun b hb hl => ⟨hb, by have := HBrD.out.size; omega⟩) _ _ (HLZ.out.doneF (B := wo.heap.size) (wf := wr) (by simp) HUK.out (fun x hx => by
        rcases List.mem_append.1 hx with hx | hx
        · exact HE.out.2.2.2.2.2.2 x hx
        · exact HOE.out.2.2.2 x hx) (by simp; unfold maxLen; omega) (by decide) (Nat.le_refl _) (fun b _ _ => rfl)))
      have HOB := Lib.hid (bx_row (rowIs_below HLZ.out.row HBrD.out hOr))
      have hOD : w4.heap.size < w7.drew.heap.size := HOB.out.1
      have hVD := HTD.out.bv.1
      have HS0 := Lib.hid (T10.of HTD.out.bv HOB.out)
      have HS1 := Lib.hid (show ∀ wF, Below w7.drew.heap.size w7.drew wF → T10 w.heap.size h w4.heap.size ⟨5, 0, ByteArray.empty, none, 0, 0, A', f.length + f2.length, c'⟩ wF from fun wF hb => T10.of (HTD.out.bv.go hb HTD.out.bv.1) (HOB.out.go hb HOB.out.1))
      have HS2 := Lib.hid (show ∀ wF wG, Below w7.drew.heap.size w7.drew wF → Below wF.heap.size wF wG → T10 w.heap.size h w4.heap.size ⟨5, 0, ByteArray.empty, none, 0, 0, A', f.length + f2.length, c'⟩ wG from fun wF wG hb hc => HS1.out wG (hb.trans (hc.mono hb.size)))
      have HS3 := Lib.hid (show ∀ wF wG (h8 : Hd), Below w7.drew.heap.size w7.drew wF → Below wF.heap.size wF wG → T10 w.heap.size h w4.heap.size ⟨5, 0, ByteArray.empty, none, 0, 0, A', f.length + f2.length, c'⟩ (((((wG.setCell ⟨w.heap.size + 1 + 1, 0, none⟩ (.int .i64 h8.k)).setCell ⟨w.heap.size + 1 + 1, 1, none⟩ (.int .i64 h8.n)).setCell ⟨w.heap.size + 1 + 1, 2, none⟩ (.string h8.s)).setCell ⟨w.heap.size + 1 + 1, 3, none⟩ (.slice h8.A h8.la h8.lc)).setCell ⟨w.heap.size + 1 + 1, 4, none⟩ (.slice h8.F h8.lf h8.fc)) from fun wF wG h8 hb hc => (HS2.out wF wG hb hc).imp (res_set (w := w) _ (by omega)) (res_set (w := w) _ (by omega)))
      have C1 := Lib.hid (ordered_ref keys 5 0 ByteArray.empty (ks ++ ks2) (f ++ f2) _ ⟨5, 0, ByteArray.empty, none, 0, 0, A', f.length + f2.length, c'⟩ w7.drew K kc (fun b hb => hb.2) HLX.out (Nat.le_trans HJS.out.2 (by decide)) (HKR.out.below HTD.out.bel (Nat.le_refl _)) hkl HNDK.out (obj_R HXR.out).2.2.2 HKZ.out)
      have C2 := Lib.hid (show ∀ wF hs1, Below w7.drew.heap.size w7.drew wF → Lies wF (fun b => ((b < w.heap.size ∨ wo.heap.size ≤ b) ∧ b < w7.drew.heap.size) ∨ w7.drew.heap.size ≤ b) (ordV keys (.mk 5 0 ByteArray.empty [] (ks ++ ks2) (f ++ f2))) hs1 → Calls Try.prog 90 #[h.val, .slice A m c, hs1.val] wF (ChgS (fun b => (b < w.heap.size ∨ wo.heap.size ≤ b) ∧ b < wF.heap.size) (putV a p (ordV keys (.mk 5 0 ByteArray.empty [] (ks ++ ks2) (f ++ f2)))) wF) from fun wF hs1 hb hl => changed_ref _ _ hs1 p a h wF A m c 12 (fun b hb => hb.2) (Lies.keep (fun _ _ _ => rfl) (fun b hb h9 => ⟨.inl hb, h9⟩) _ _ (HS.out.below (HTD.out.bel.trans (hb.mono HTD.out.bel.size)) (Nat.le_refl _))) (Lies.keep (fun _ _ _ => rfl) (fun b hb9 h9 => ⟨by
        rcases hb9 with hb9 | hb9
        · exact hb9.1
        · right; omega, h9⟩) _ _ hl) (HA.out.below (HTD.out.bel.trans (hb.mono HTD.out.bel.size)) (Nat.le_refl _)) HYES.out.1.2.2.1.2 HM.out hc hp HSH.out (Nat.le_trans HCA.out (by decide)) (HALL.out.2.2.1 HJS.out.1) HYES.out.1.2.1 (by rw [HYES.out.2]; rfl))
      have HRZ := Lib.hid (show ∀ wF wG, Below w7.drew.heap.size w7.drew wF → Below wF.heap.size wF wG → TB w h hx wG from fun wF wG hb hc => (HTD.out.go hb (by have := HTD.out.sz; omega)).go hc (by have := HTD.out.sz; have := hb.size; omega))
      unfold Hd.val at C1 C2
      clear HLX HOB HTD HALL HBrD HXR HJS
      go_wp2_with fail
      go_region_held3 (fun w' => w'.cell? ⟨w.heap.size, 0, none⟩ = some (.int .i64 h.k) ∧ w'.cell? ⟨w.heap.size, 1, none⟩ = some (.int .i64 h.n) ∧ w'.cell? ⟨w.heap.size, 2, none⟩ = some (.string h.s) ∧ w'.cell? ⟨w.heap.size, 3, none⟩ = some (.slice h.A h.la h.lc) ∧ w'.cell? ⟨w.heap.size, 4, none⟩ = some (.slice h.F h.lf h.fc) ∧ w'.cell? ⟨w4.heap.size, 0, none⟩ = some (.int .i64 5) ∧ w'.cell? ⟨w4.heap.size, 1, none⟩ = some (.int .i64 0) ∧ w'.cell? ⟨w4.heap.size, 2, none⟩ = some (.string ByteArray.empty) ∧ w'.cell? ⟨w4.heap.size, 3, none⟩ = some (.slice none 0 0) ∧ w'.cell? ⟨w4.heap.size, 4, none⟩ = some (.slice A' (f.length + f2.length) c'))
        (first
          | (have h7 := HS3.out _ _ h8 hbF hbG; with_reducible exact h7)
          | (have h7 := HS2.out _ _ hbF hbG; with_reducible exact h7)
          | (have h7 := HS1.out _ hbF; with_reducible exact h7)
          | (have h7 := HS0.out; with_reducible exact h7)
          | skip)
        (first
          | (go_at_call 90; refine (C2.out _ _ hbF hl1).mono ?_; rintro e wG ⟨b8, h8, er, rfl, hbG, hl8, ho8⟩; have HR9 := (HRZ.out _ _ hbF hbG).res; have z0 := HR9.cell (show 0 < 5 by decide); have z1 := HR9.cell (show 1 < 5 by decide); have z2 := HR9.cell (show 2 < 5 by decide); have z3 := HR9.cell (show 3 < 5 by decide); have z4 := HR9.cell (show 4 < 5 by decide); have g0 := HR9.frozen 0; have g1 := HR9.frozen 1; have g2 := HR9.frozen 2; have g3 := HR9.frozen 3; have g4 := HR9.frozen 4; simp only [hdAt, Hd.cells, List.getD_cons_succ, List.getD_cons_zero] at z0 z1 z2 z3 z4)
          | (go_at_call 37; refine C1.out.mono ?_; rintro e wF ⟨hs1, rfl, hl1, hbF⟩)
          | fail)
      all_goals go_wp2_with fail
      all_goals
        refine bodyPost_ret (v := .tuple #[.agg #[.int .i64 h8.k, .int .i64 h8.n, .string h8.s, .slice h8.A h8.la h8.lc, .slice h8.F h8.lf h8.fc], .int .i64 er]) (by simp [results, Try.results55, go_sem, z0, z1, z2, z3, z4]; try rfl) rfl ?_
        have HT9 := HRZ.out _ _ hbF hbG
        refine ⟨b8, h8, er, rfl, res_below HT9.bel (by omega), ?_, ?_⟩
        · refine Lies.keep (fun q hq _ => World.cell?_of_block (res_set (w := w) _ (fun e => ?_))) (fun _ _ _ => trivial) _ _ hl8
          rw [e] at hq
          have := hbF.size
          have h3 : w7.drew.heap.size = w7.heap.size := rfl
          rcases hq with ⟨hq | hq, _⟩ | hq <;> omega
        · rcases ho8 with ⟨h1, h2, h3⟩ | ⟨h1, h2, h3⟩
          · exact .inr (.inr (.inr (.inr (.inl ⟨_, HYES.out.1, HYES.out.2, rfl, HNT.out, h1, h2, h3⟩))))
          · exact .inr (.inr (.inr (.inr (.inr ⟨_, HYES.out.1, HYES.out.2, rfl, HNT.out, h1, h2, h3⟩))))
end Go.Proofs.Ytmdlcalnncncjaa

/- Arguments that are paths, opened. -/
set_option linter.unusedVariables false
set_option linter.unusedSimpArgs false
namespace Go.Proofs.Ytmdlcalnncncjaa
open Go.RowKit Go.ChangeShapes Go.WideShapes Go.Deep
theorem cells72 : Try.prog.cellsOf 72 = 3 := by kernel_rfl
theorem cells4 : Try.prog.cellsOf 4 = 1 := by kernel_rfl
section
variable {H : Type} {enc : TypeId × Value → H} {W : World} {base : Nat} {spare : Nat → Bool} {held : Bool}
theorem three_of {cs : List Value} (h : cs.length = 3) : ∃ a b c, cs = [a, b, c] := by
  match cs, h with
  | [a, b, c], _ => exact ⟨a, b, c, rfl⟩
theorem is_step {fuel : Nat} {cs : List Value} {x : DataW H × List MemPlace} (hx : DataW.trod enc Try.prog W base spare held fuel 72 cs = some x) : ∃ s : St, cs = s.cells ∧ s.ok := by
  obtain ⟨xs, n, hn, -, hlen, hxl, hf⟩ := DataW.trod_struct Try.underlying72 hx
  rw [cells72] at hlen
  obtain ⟨c0, c1, c2, rfl⟩ := three_of hlen
  have f0 : DataW.trod enc Try.prog W base spare held n 9 (([c0, c1, c2].drop 0).take (Try.prog.cellsOf 9)) = xs[0]? := hf 0 _ rfl
  have f1 : DataW.trod enc Try.prog W base spare held n 3 (([c0, c1, c2].drop 1).take (Try.prog.cellsOf 3)) = xs[1]? := hf 1 _ rfl
  have f2 : DataW.trod enc Try.prog W base spare held n 4 (([c0, c1, c2].drop 2).take (Try.prog.cellsOf 4)) = xs[2]? := hf 2 _ rfl
  rw [cells9] at f0
  rw [cells3] at f1
  rw [cells4] at f2
  have hx3 : xs.length = 3 := hxl
  rw [List.getElem?_eq_getElem (by omega)] at f0 f1 f2
  obtain ⟨s, e0, -, w0⟩ := DataW.trod_string Try.underlying9 f0
  obtain ⟨m, e1, -, w1⟩ := DataW.trod_int Try.underlying3 f1
  obtain ⟨b, e2, -⟩ := DataW.trod_bool Try.underlying4 f2
  have g0 : c0 = .string s := by simpa using e0
  have g1 : c1 = .int .i64 m := by simpa using e1
  have g2 : c2 = .bool b := by simpa using e2
  subst g0 g1 g2
  exact ⟨⟨s, m, b⟩, rfl, w0, wf_bounds w1⟩
/-- What a path that is handed in is. -/
def IsPath (W : World) (A : Option Addr) (n c : Nat) (p : List St) : Prop := n = p.length ∧ p.length ≤ c ∧ p.length ≤ maxLen ∧ PathAt W A p
theorem is_path {fuel : Nat} {v : Value} {x : DataW H × List MemPlace} (hx : DataW.trod enc Try.prog W base spare held fuel 50 [v] = some x) : ∃ A n c p, v = .slice A n c ∧ IsPath W A n c p := by
  rcases DataW.trod_slice Try.underlying50 hx with ⟨e, -⟩ | ⟨ad, len, cap, elems, rest, n', hn', e, -, hb, hlc, hm, hel, hE, -, -⟩
  · exact ⟨none, 0, 0, [], by simpa using e, rfl, Nat.le_refl _, by decide, PathAt.nil _ _⟩
  · have hall : ∀ i, i < len → ∃ s : St, s.ok ∧ ∀ (j : Nat) u, s.cells[j]? = some u → W.cell? (ad.add (i * 3 + j)) = some u := by
      intro i hi
      have h1 := hE i hi
      rw [List.getElem?_eq_getElem (by omega), Option.bind_eq_some_iff] at h1
      obtain ⟨cs', hc, ht⟩ := h1
      obtain ⟨s, rfl, hl⟩ := is_step ht
      refine ⟨s, hl, fun j u hu => ?_⟩
      obtain ⟨-, hcl, hat⟩ := World.cells?_some hc
      have hj : j < 3 := (List.getElem?_eq_some_iff.1 hu).1
      have := hat j (by rw [cells72]; exact hj)
      rw [cells72, ada] at this
      rw [this]
      exact hu
    obtain ⟨pl, hpl, hp⟩ := list_of len hall
    refine ⟨some ad, len, cap, pl, by simpa using e, hpl.symm, by omega, by omega, fun i s hs => ⟨ad, rfl, ?_, At3.of fun j c hj => ?_, (hp i s hs).1⟩⟩
    · have := (hp i s hs).2 0 _ rfl
      exact World.block_lt_of_cell? W _ this
    · rw [ada]
      exact (hp i s hs).2 j c hj
set_option maxRecDepth 100000 in
theorem open_path {r : Reach} {b0 : Nat} {v : Value} {d : DataW H} {p : List MemPlace} (hv : Value.okWide Try.prog W r b0 50 v) (h : DataW.Trod enc Try.prog W base spare held 50 v d p) :
    ∃ A n c p, v = .slice A n c ∧ IsPath W A n c p := by
  obtain ⟨A, n, c, rfl⟩ := okWide_slice Try.underlying50 hv
  obtain ⟨fuel, hf⟩ := h
  exact is_path hf
end
end Go.Proofs.Ytmdlcalnncncjaa

/- An argument that is a row of texts. -/
set_option linter.unusedVariables false
set_option linter.unusedSimpArgs false
namespace Go.Proofs.Ytmdlcalnncncjaa
open Go.ChangeShapes Go.WideShapes Go.ChangeAt Go.RowKit
theorem cellLt {w : World} {p : Addr} {v : Value} (h : w.cell? p = some v) : p.block < w.heap.size := by
  rcases Nat.lt_or_ge p.block w.heap.size with hl | hl
  · exact hl
  · unfold World.cell? at h
    rw [Array.getElem?_eq_none hl] at h
    cases h
def IsStrs (w : World) (a : Option Addr) (len : Nat) (ss : List ByteArray) : Prop := Rd w a len (ss.map Value.string) ∧ len ≤ maxLen ∧ ∀ x ∈ ss, x.size ≤ maxLen
theorem is_strs {H : Type} {enc : TypeId × Value → H} {W : World} {t e : TypeId} {a : Option Addr} {len cap : Nat} {d : DataW H} {ps : List MemPlace} (ht : Try.prog.underlying t = some (.slice e)) (he : Try.prog.underlying e = some .string) (hc : Try.prog.cellsOf e = 1)
    (h : DataW.Trod enc Try.prog W 0 (fun _ => true) true t (.slice a len cap) d ps) : ∃ ss, IsStrs W a len ss := by
  obtain ⟨fuel, hf⟩ := h
  rcases open_strings ht he hc hf with ⟨hcs, _⟩ | ⟨x, l, c, zs, hcs, _, hl, hm, hz, _, hcell, hwz⟩
  · simp [Value.cells] at hcs
    obtain ⟨rfl, rfl, rfl⟩ := hcs
    exact ⟨[], ⟨rfl, fun h => by omega⟩, Nat.zero_le _, fun z hz => by simp at hz⟩
  · simp [Value.cells] at hcs
    obtain ⟨rfl, rfl, rfl⟩ := hcs
    have hz' : zs.length = cap := by simpa using hz
    refine ⟨zs.take len, ⟨by simp; omega, fun hn => ⟨x, rfl, ?_, fun j u hu => ?_⟩⟩, by omega, fun z hz => hwz z (List.mem_of_mem_take hz)⟩
    · have := cellLt (hcell 0 (by omega)); rwa [adb] at this
    · rw [List.getElem?_map, Option.map_eq_some_iff] at hu
      obtain ⟨z, hz1, rfl⟩ := hu
      rw [List.getElem?_take] at hz1
      split at hz1
      · have hj : j < zs.length := by omega
        rw [hcell j hj, List.getD_eq_getElem?_getD, hz1]; rfl
      · cases hz1
end Go.Proofs.Ytmdlcalnncncjaa

/- An argument that is an object's pairs and the order of keys, opened. -/
set_option linter.unusedVariables false
set_option linter.unusedSimpArgs false
namespace Go.Proofs.Ytmdlcalnncncjaa
open Go.RowKit Go.ChangeShapes Go.WideShapes Go.Deep
theorem cells66 : Try.prog.cellsOf 66 = 6 := by kernel_rfl
theorem cells44 : Try.prog.cellsOf 44 = 1 := by kernel_rfl
section
variable {H : Type} {enc : TypeId × Value → H} {W : World}
set_option maxRecDepth 100000 in
theorem open_patch {r : Reach} {b0 : Nat} {v : Value} {d : DataW H} {p : List MemPlace} (hv : Value.okWide Try.prog W r b0 66 v) (h : DataW.Trod enc Try.prog W 0 (fun _ => true) true 66 v d p) :
    ∃ a hd K n kc ks, v = .agg #[.int .i64 hd.k, .int .i64 hd.n, .string hd.s, .slice hd.A hd.la hd.lc, .slice hd.F hd.lf hd.fc, .slice K n kc] ∧ Lies W (fun _ => True) a hd ∧ IsStrs W K n ks := by
  obtain ⟨cs, rfl, hsz⟩ := okWide_struct Try.underlying66 hv
  obtain ⟨fuel, hf⟩ := h
  have hf' : DataW.trod enc Try.prog W 0 (fun _ => true) true fuel 66 cs.toList = some (d, p) := hf
  obtain ⟨xs, n, hn, -, hlen, hxl, hfl⟩ := DataW.trod_struct Try.underlying66 hf'
  rw [cells66] at hlen
  obtain ⟨c0, c1, c2, c3, c4, c5, hcs⟩ := six_of hlen
  have f0 : DataW.trod enc Try.prog W 0 (fun _ => true) true n 25 ((cs.toList.drop 0).take (Try.prog.cellsOf 25)) = xs[0]? := hfl 0 _ rfl
  have f1 : DataW.trod enc Try.prog W 0 (fun _ => true) true n 44 ((cs.toList.drop 5).take (Try.prog.cellsOf 44)) = xs[1]? := hfl 1 _ rfl
  rw [cells25, hcs] at f0
  rw [cells44, hcs] at f1
  have hx2 : xs.length = 2 := hxl
  rw [List.getElem?_eq_getElem (by omega)] at f0 f1
  have f0' : DataW.trod enc Try.prog W 0 (fun _ => true) true n 25 [c0, c1, c2, c3, c4] = some xs[0] := f0
  have f1' : DataW.trod enc Try.prog W 0 (fun _ => true) true n 44 [c5] = some xs[1] := f1
  obtain ⟨a, hd, eh, hl⟩ := is_value n _ _ f0'
  have hc5 : ∃ K m kc, c5 = .slice K m kc := by
    rcases DataW.trod_slice Try.underlying44 f1' with ⟨e, -⟩ | ⟨ad, len, cap, elems, rest, n', hn', e, -⟩
    · exact ⟨none, 0, 0, by simpa using e⟩
    · exact ⟨some ad, len, cap, by simpa using e⟩
  obtain ⟨K, m, kc, rfl⟩ := hc5
  obtain ⟨ks, hks⟩ := is_strs (enc := enc) (W := W) (d := xs[1].1) (ps := xs[1].2) (cap := kc) Try.underlying44 Try.underlying9 (by kernel_rfl) ⟨n, f1'⟩
  refine ⟨a, hd, K, m, kc, ks, ?_, hl, hks⟩
  have e1 : cs.toList = [.int .i64 hd.k, .int .i64 hd.n, .string hd.s, .slice hd.A hd.la hd.lc, .slice hd.F hd.lf hd.fc, .slice K m kc] := by
    rw [hcs]
    have : [c0, c1, c2, c3, c4] = hd.cells := eh
    simp only [Hd.cells, List.cons.injEq, and_true] at this
    obtain ⟨rfl, rfl, rfl, rfl, rfl⟩ := this
    rfl
  have : cs = #[.int .i64 hd.k, .int .i64 hd.n, .string hd.s, .slice hd.A hd.la hd.lc, .slice hd.F hd.lf hd.fc, .slice K m kc] := Array.ext' (by rw [e1])
  rw [this]
end
end Go.Proofs.Ytmdlcalnncncjaa

/- What is put is found, and what is elsewhere stays; plain. -/
set_option linter.unusedVariables false
set_option linter.unusedSimpArgs false
namespace Go.Proofs.Ytmdlcalnncncjaa
open Go.RowKit
theorem subI_setL {k n : Int} {t : ByteArray} {l : List Va} {ks : List ByteArray} {f : List Va} {s : St} {i : Nat} {z : Va} : subI (.mk k n t (l.set i z) ks f) s = subI (.mk k n t l ks f) s := by simp only [subI, List.length_set]
theorem subI_setF {k n : Int} {t : ByteArray} {l : List Va} {ks : List ByteArray} {f : List Va} {s : St} {i : Nat} {z : Va} : subI (.mk k n t l ks (f.set i z)) s = subI (.mk k n t l ks f) s := rfl
/-- What is put is found. -/
theorem go_put (x : Va) : ∀ (p : List St) (a : Va), (goV a p).isSome = true → goV (putV a p x) p = some x
  | [], a, _ => by cases a; rfl
  | s :: p, .mk k n t l ks f, h => by
    obtain ⟨b, hb⟩ := Option.isSome_iff_exists.1 h
    obtain ⟨i, y, hi, hL, hF, hg⟩ := goV_cons hb
    have ih := go_put x p y (by rw [hg]; rfl)
    cases hs : s.i
    · have hy := hF hs
      rw [putV_F hi hs hy]
      have hlt := (List.getElem?_eq_some_iff.1 hy).1
      simp only [goV, subV]
      rw [subI_setF, hi]
      simp only
      rw [if_neg (by rw [hs]; decide), List.getElem?_set_self hlt]
      exact ih
    · have hy := hL hs
      rw [putV_L hi hs hy]
      have hlt := (List.getElem?_eq_some_iff.1 hy).1
      simp only [goV, subV]
      rw [subI_setL, hi]
      simp only
      rw [if_pos hs, List.getElem?_set_self hlt]
      exact ih
/-- Two steps that aren't one lead elsewhere. -/
theorem subI_ne {k n : Int} {t : ByteArray} {l : List Va} {ks : List ByteArray} {f : List Va} {s r : St} {i j : Nat} (hs : StR s) (hr : StR r) (hne : s ≠ r) (hi : subI (.mk k n t l ks f) s = some i) (hj : subI (.mk k n t l ks f) r = some j) : s.i = r.i ∧ i ≠ j := by
  obtain ⟨sk, sa, si⟩ := s
  obtain ⟨rk, ra, ri⟩ := r
  simp only [subI] at hi hj
  rcases hs with ⟨e1, h1, h2, h3⟩ | ⟨e1, h1, h2⟩ <;> rcases hr with ⟨e2, g1, g2, g3⟩ | ⟨e2, g1, g2⟩
  · simp only at e1 e2 h1 h2 g1 g2
    subst e1 e2
    rw [if_pos rfl] at hi hj
    split at hi
    · split at hj
      · cases hi
        cases hj
        refine ⟨rfl, fun e => hne ?_⟩
        have hk : sk = rk := (empty_of h1).trans (empty_of g1).symm
        have ha : sa = ra := by omega
        rw [hk, ha]
      · cases hj
    · cases hi
  · simp only at e1 e2
    subst e1 e2
    rw [if_pos rfl] at hi
    rw [if_neg (by decide)] at hj
    split at hi
    · rename_i hc
      split at hj
      · rename_i hd
        exact absurd (hc.1.symm.trans hd) (by decide)
      · cases hj
    · cases hi
  · simp only at e1 e2
    subst e1 e2
    rw [if_neg (by decide)] at hi
    rw [if_pos rfl] at hj
    split at hj
    · rename_i hc
      split at hi
      · rename_i hd
        exact absurd (hc.1.symm.trans hd) (by decide)
      · cases hi
    · cases hj
  · simp only at e1 e2 h1 g1
    subst e1 e2 h1 g1
    rw [if_neg (by decide)] at hi hj
    split at hi
    · rw [if_pos (by assumption)] at hj
      refine ⟨rfl, fun e => hne ?_⟩
      have a1 := (kIdx_some hi).1
      have a2 := (kIdx_some hj).1
      rw [e, a2] at a1
      cases a1
      rfl
    · cases hi
/-- What is elsewhere stays. -/
theorem go_other (x : Va) : ∀ (p q : List St) (a : Va), (∀ s ∈ p, StR s) → (∀ s ∈ q, StR s) → (goV a p).isSome = true → ¬ (p.length ≤ q.length ∧ p = q.take p.length) → ¬ (q.length ≤ p.length ∧ q = p.take q.length) → goV (putV a p x) q = goV a q
  | [], q, a, _, _, _, h1, _ => absurd ⟨by simp, by simp⟩ h1
  | s :: p, [], a, _, _, _, _, h2 => absurd ⟨by simp, by simp⟩ h2
  | s :: p, r :: q, .mk k n t l ks f, hp, hq, h, h1, h2 => by
    obtain ⟨b, hb⟩ := Option.isSome_iff_exists.1 h
    obtain ⟨i, y, hi, hL, hF, hg⟩ := goV_cons hb
    by_cases e : s = r
    · subst e
      have ih := go_other x p q y (fun t ht => hp t (by simp [ht])) (fun t ht => hq t (by simp [ht])) (by rw [hg]; rfl)
        (fun hh => h1 ⟨by simp; exact hh.1, by simp; exact hh.2⟩) (fun hh => h2 ⟨by simp; exact hh.1, by simp; exact hh.2⟩)
      cases hs : s.i
      · have hy := hF hs
        have hlt := (List.getElem?_eq_some_iff.1 hy).1
        rw [putV_F hi hs hy]
        simp only [goV, subV]
        rw [subI_setF, hi]
        simp only
        rw [if_neg (by rw [hs]; decide), if_neg (by rw [hs]; decide), List.getElem?_set_self hlt, hy]
        exact ih
      · have hy := hL hs
        have hlt := (List.getElem?_eq_some_iff.1 hy).1
        rw [putV_L hi hs hy]
        simp only [goV, subV]
        rw [subI_setL, hi]
        simp only
        rw [if_pos hs, if_pos hs, List.getElem?_set_self hlt, hy]
        exact ih
    · cases hs : s.i
      · have hy := hF hs
        rw [putV_F hi hs hy]
        simp only [goV, subV]
        rw [subI_setF]
        cases hj : subI (.mk k n t l ks f) r with
        | none => rfl
        | some j =>
          obtain ⟨he, hij⟩ := subI_ne (hp s (by simp)) (hq r (by simp)) e hi hj
          simp only
          rw [if_neg (by rw [← he, hs]; decide), if_neg (by rw [← he, hs]; decide), List.getElem?_set_ne hij]
      · have hy := hL hs
        rw [putV_L hi hs hy]
        simp only [goV, subV]
        rw [subI_setL]
        cases hj : subI (.mk k n t l ks f) r with
        | none => rfl
        | some j =>
          obtain ⟨he, hij⟩ := subI_ne (hp s (by simp)) (hq r (by simp)) e hi hj
          simp only
          rw [if_pos (by rw [← he, hs]), if_pos (by rw [← he, hs]), List.getElem?_set_ne hij]
end Go.Proofs.Ytmdlcalnncncjaa
