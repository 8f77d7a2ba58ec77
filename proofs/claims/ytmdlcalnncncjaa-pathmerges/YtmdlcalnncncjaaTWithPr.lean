/- tree.With, walked. -/
import Derived.Test.YtmdlcalnncncjaaTWithP
set_option linter.unusedVariables false
set_option linter.unusedSimpArgs false
namespace Go.Proofs.Ytmdlcalnncncjaa
open Go.RowKit Classical
theorem cntL_set (x : Va) : ∀ (l : List Va) (i : Nat), cntL (l.set i x) ≤ cntL l + x.cnt
  | [], _ => by simp [cntL]
  | y :: r, 0 => by simp only [List.set_cons_zero, cntL]; omega
  | y :: r, i + 1 => by
    have := cntL_set x r i
    simp only [List.set_cons_succ, cntL]
    omega
theorem ShL_set {x : Va} (hx : x.Sh) : ∀ (l : List Va) (i : Nat), ShL l → ShL (l.set i x)
  | [], _, h => by simp [ShL]
  | y :: r, 0, h => by simp only [List.set_cons_zero, ShL] at h ⊢; exact ⟨hx, h.2⟩
  | y :: r, i + 1, h => by
    simp only [List.set_cons_succ, ShL] at h ⊢
    exact ⟨h.1, ShL_set hx r i h.2⟩
theorem sh_put {k n : Int} {s : ByteArray} {l : List Va} {ks : List ByteArray} {f : List Va} {x : Va} (h : (Va.mk k n s l ks f).Sh) (hx : x.Sh) (i : Nat) : (Va.mk k n s l ks (f.set i x)).Sh ∧ (Va.mk k n s l ks (f.set i x)).cnt ≤ (Va.mk k n s l ks f).cnt + x.cnt := by
  simp only [Va.Sh, Va.cnt] at h ⊢
  have := cntL_set x f i
  exact ⟨⟨h.1, h.2.1, h.2.2.1, ShL_set hx f i h.2.2.2⟩, by omega⟩
theorem sh_app {k n : Int} {s : ByteArray} {l : List Va} {ks : List ByteArray} {f : List Va} {x : Va} {key : ByteArray} (h : (Va.mk k n s l ks f).Sh) (hx : x.Sh) (hk : key.size ≤ 500) : (Va.mk k n s l (ks ++ [key]) (f ++ [x])).Sh ∧ (Va.mk k n s l (ks ++ [key]) (f ++ [x])).cnt ≤ (Va.mk k n s l ks f).cnt + x.cnt := by
  simp only [Va.Sh, Va.cnt] at h ⊢
  refine ⟨⟨h.1, h.2.1, ?_, (ShL_app _ _).2 ⟨h.2.2.2, by simp [ShL, hx]⟩⟩, ?_⟩
  · intro y hy
    rcases List.mem_append.1 hy with hy | hy
    · exact h.2.2.1 y hy
    · simp at hy; subst hy; exact hk
  · rw [cntL_app]
    simp only [cntL]
    omega
/-- The three blocks of a call of With. -/
structure TB (w : World) (h hx : Hd) (wr : World) : Prop where
  bel : Below w.heap.size w wr
  bv : Bx wr w.heap.size h
  bx : Bx wr (w.heap.size + 1) hx
  res : wr.rowIs (w.heap.size + 2) 25 5 zeroRes
  sz : w.heap.size + 3 ≤ wr.heap.size
theorem TB.go {w wr wr' : World} {h hx : Hd} {B : Nat} (H : TB w h hx wr) (hb : Below B wr wr') (hB : w.heap.size + 3 ≤ B) : TB w h hx wr' :=
  ⟨H.bel.trans (hb.mono (by omega)), H.bv.go hb (by omega), H.bx.go hb (by omega), rowIs_below H.res hb (by omega), Nat.le_trans H.sz hb.size⟩
theorem TB.start (w : World) (h hx : Hd) : TB w h hx (((w.alloc (Obj.cells #[.int .i64 h.k, .int .i64 h.n, .string h.s, .slice h.A h.la h.lc, .slice h.F h.lf h.fc] 25)).alloc (Obj.cells #[.int .i64 hx.k, .int .i64 hx.n, .string hx.s, .slice hx.A hx.la hx.lc, .slice hx.F hx.lf hx.fc] 25)).alloc (Obj.cells #[.int .i64 0, .int .i64 0, .string { data := #[] }, .slice none 0 0, .slice none 0 0] 25)) := by
  refine ⟨((one_alloc w _).alloc (by simp) _).alloc (by simp; omega) _, ((Bx.start w h 25).alloc _).alloc _, (Bx.start' _ hx 25 (by simp)).alloc _, hdAt_row (h := zeroHd) ?_, by simp⟩
  have h9 := heap_alloc_new ((w.alloc (Obj.cells #[.int .i64 h.k, .int .i64 h.n, .string h.s, .slice h.A h.la h.lc, .slice h.F h.lf h.fc] 25)).alloc (Obj.cells #[.int .i64 hx.k, .int .i64 hx.n, .string hx.s, .slice hx.A hx.la hx.lc, .slice hx.F hx.lf hx.fc] 25)) (Obj.cells #[.int .i64 0, .int .i64 0, .string { data := #[] }, .slice none 0 0, .slice none 0 0] 25)
  rwa [World.size_alloc, World.size_alloc] at h9
/-- What With answers. -/
def WithQ (arg : Prop) (a' : Va) (w : World) (e : Ending) (w' : World) : Prop := ∃ (b : Va) (h' : Hd) (er : Int), e = .returned (.tuple #[.agg #[.int .i64 h'.k, .int .i64 h'.n, .string h'.s, .slice h'.A h'.la h'.lc, .slice h'.F h'.lf h'.fc], .int .i64 er]) ∧ Lies w' (fun _ => True) b h' ∧ Below w.heap.size w w' ∧
  (¬ arg → er = 1 ∧ b = zeroVa) ∧ (arg → ¬ a'.R 12 → er = 5 ∧ b = zeroVa) ∧ (arg → a'.R 12 → er = 0 ∧ b = a')
/-- The load of w.F in the drawn statement, under a name. -/
def ldW : Op := Op.load 23 (Operand.tmp 38)
/-- What the drawn statements load. -/
def SX5 (X : Nat) (u : Hd) (w : World) : Prop := w.cell? ⟨X, 0, none⟩ = some (.int .i64 u.k) ∧ w.cell? ⟨X, 1, none⟩ = some (.int .i64 u.n) ∧ w.cell? ⟨X, 2, none⟩ = some (.string u.s) ∧ w.cell? ⟨X, 3, none⟩ = some (.slice u.A u.la u.lc) ∧ w.cell? ⟨X, 4, none⟩ = some (.slice u.F u.lf u.fc)
theorem SX5.imp {X : Nat} {u : Hd} {w w' : World} (h : SX5 X u w) (hX : w'.heap[X]? = w.heap[X]?) : SX5 X u w' :=
  ⟨(World.cell?_of_block (a := ⟨X, 0, none⟩) hX).trans h.1, (World.cell?_of_block (a := ⟨X, 1, none⟩) hX).trans h.2.1, (World.cell?_of_block (a := ⟨X, 2, none⟩) hX).trans h.2.2.1, (World.cell?_of_block (a := ⟨X, 3, none⟩) hX).trans h.2.2.2.1, (World.cell?_of_block (a := ⟨X, 4, none⟩) hX).trans h.2.2.2.2⟩
theorem SX5.lt {X : Nat} {u : Hd} {w : World} (h : SX5 X u w) : X < w.heap.size := World.block_lt_of_cell? w _ h.1
theorem SX5.bel {X : Nat} {u : Hd} {w w' : World} (h : SX5 X u w) (hb : Below w.heap.size w w') : SX5 X u w' := h.imp (hb.block _ h.lt)
theorem SX5.alloc {X : Nat} {u : Hd} {w : World} (h : SX5 X u w) (o : Obj) : SX5 X u (w.alloc o) := h.imp (Below.heap_alloc _ _ _ h.lt)
theorem SX5.grown {X : Nat} {u : Hd} {w w' : World} {row : Option Nat} (h : SX5 X u w) (hg : w.grownBy w' row) (h2 : some X ≠ row) : SX5 X u w' := h.imp (hg.block _ h.lt h2)
theorem SX5.set {X W o : Nat} {u : Hd} {w : World} (h : SX5 X u w) (h2 : X ≠ W) (v : Value) : SX5 X u (w.setCell ⟨W, o, none⟩ v) := h.imp (Below.heap_setCell _ _ _ _ h2)
theorem cellWF {w w' : World} {W : Nat} {v : Value} (h : w.cell? ⟨W, 4, none⟩ = some v) (hb : w'.heap[W]? = w.heap[W]?) : w'.cell? ⟨W, 4, none⟩ = some v := (World.cell?_of_block (a := ⟨W, 4, none⟩) hb).trans h
theorem row_facts {w7 : World} {g i cap : Nat} {cur : Array Value} (hh : w7.heap[g]? = some (.cells cur 36 (0, 0))) (hsz : cur.size = cap * 6) (hi : i < cap) : ∀ j, j < 6 → ∃ v, w7.cell? ⟨g, i * 6 + j, none⟩ = some v := fun j hj => by
  rw [cell_of_row w7 g _ cur 36 (0, 0) hh]
  have : i * 6 + j < cur.size := by rw [hsz]; omega
  exact ⟨cur[i * 6 + j], by simp [this]⟩
theorem row_frozen {w7 : World} {g p : Nat} {cur : Array Value} (hh : w7.heap[g]? = some (.cells cur 36 (0, 0))) : w7.frozen? ⟨g, p, none⟩ = false := by simp [World.frozen?, hh]
set_option maxHeartbeats 2000000 in
set_option maxRecDepth 100000 in
theorem with_prog (k n : Int) (s : ByteArray) (l : List Va) (ks : List ByteArray) (f : List Va) (x : Va) (S S' : Nat → Prop) (h hx : Hd) (key : ByteArray) (w : World) (H : Lies w S (.mk k n s l ks f) h) (HX : Lies w S' x hx) (hsh : (Va.mk k n s l ks f).Sh) (hcn : (Va.mk k n s l ks f).cnt ≤ 60) (hshx : x.Sh) (hcnx : x.cnt ≤ 60) (hk5 : key.size ≤ 500) :
    Calls Try.prog 31 #[h.val, .string key, hx.val] w fun e w' => WithQ (h.k = 5 ∧ (Va.mk k n s l ks f).R 12 ∧ rightB key = true ∧ x.R 12) (.mk k n s l (ksW ks key) (fW ks f key x)) w e w' := by
  have HH := Lib.hid H
  have HXX := Lib.hid HX
  have HSH := Lib.hid hsh
  have HSX := Lib.hid hshx
  have hcn2 := hcn
  simp only [Va.cnt] at hcn2
  have hfl : f.length ≤ 60 := by have := len_le_cntL f; omega
  have HCN := Lib.hid hcn
  have HCX := Lib.hid hcnx
  simp only [Lies] at H
  obtain ⟨⟨e1, e2, e3, e4, e5, e6⟩, -, -, -⟩ := H
  have E6 := Lib.hid e6
  clear HX hsh hshx hcn2 hcn hcnx e1 e2 e3 e4 e5 e6
  have htb := TB.start w h hx
  have HTB := Lib.hid htb
  have hob := object_prog (.mk k n s l ks f) S h _ (HH.out.below htb.bel (Nat.le_refl _)) HSH.out (by have := HCN.out; omega)
  have HOB := Lib.hid hob
  clear hob htb
  have hml : (500 : Nat) ≤ maxLen := by decide
  have hkm : key.size ≤ maxLen := Nat.le_trans hk5 hml
  clear hml
  unfold Hd.val at *
  go_enter Try.func31, Try.ntmps31
  go_wp2_with fail
  refine HOB.out.mono ?_
  rintro e w1 ⟨r, rfl, hr, hb1⟩
  have HT1 := Lib.hid (HTB.out.go hb1 (by simp))
  have HR := Lib.hid hr
  clear hb1 hr HOB HTB
  cases r
  · have z0 := HT1.out.res.cell (show 0 < 5 by decide)
    have z1 := HT1.out.res.cell (show 1 < 5 by decide)
    have z2 := HT1.out.res.cell (show 2 < 5 by decide)
    have z3 := HT1.out.res.cell (show 3 < 5 by decide)
    have z4 := HT1.out.res.cell (show 4 < 5 by decide)
    have g0 := HT1.out.res.frozen 0
    have g1 := HT1.out.res.frozen 1
    have g2 := HT1.out.res.frozen 2
    have g3 := HT1.out.res.frozen 3
    have g4 := HT1.out.res.frozen 4
    simp only [hdAt, Hd.cells, List.getD_cons_succ, List.getD_cons_zero] at z0 z1 z2 z3 z4
    go_wp2_with fail
    refine bodyPost_ret (v := .tuple #[.agg #[.int .i64 0, .int .i64 0, .string ByteArray.empty, .slice none 0 0, .slice none 0 0], .int .i64 1]) (by simp [results, Try.results31, go_sem, z0, z1, z2, z3, z4]; try rfl) rfl ?_
    exact ⟨zeroVa, zeroHd, 1, rfl, lies_zero _ _, res_below HT1.out.bel (by omega), fun _ => ⟨rfl, rfl⟩, fun h => absurd h (fun q => by have := HR.out.2 ⟨q.1, q.2.1⟩; cases this), fun h => absurd h (fun q => by have := HR.out.2 ⟨q.1, q.2.1⟩; cases this)⟩
  have HY1 := Lib.hid (HR.out.1 rfl)
  clear HR
  go_wp2_with fail
  refine (right_any key hkm w1).mono ?_
  rintro e w2 ⟨rfl, hb2⟩
  have HT2 := Lib.hid (HT1.out.go hb2 HT1.out.sz)
  clear hb2 HT1
  cases hrk : rightB key
  · have HRK := Lib.hid hrk
    clear hrk
    have z0 := HT2.out.res.cell (show 0 < 5 by decide)
    have z1 := HT2.out.res.cell (show 1 < 5 by decide)
    have z2 := HT2.out.res.cell (show 2 < 5 by decide)
    have z3 := HT2.out.res.cell (show 3 < 5 by decide)
    have z4 := HT2.out.res.cell (show 4 < 5 by decide)
    have g0 := HT2.out.res.frozen 0
    have g1 := HT2.out.res.frozen 1
    have g2 := HT2.out.res.frozen 2
    have g3 := HT2.out.res.frozen 3
    have g4 := HT2.out.res.frozen 4
    simp only [hdAt, Hd.cells, List.getD_cons_succ, List.getD_cons_zero] at z0 z1 z2 z3 z4
    go_wp2_with fail
    refine bodyPost_ret (v := .tuple #[.agg #[.int .i64 0, .int .i64 0, .string ByteArray.empty, .slice none 0 0, .slice none 0 0], .int .i64 1]) (by simp [results, Try.results31, go_sem, z0, z1, z2, z3, z4]; try rfl) rfl ?_
    exact ⟨zeroVa, zeroHd, 1, rfl, lies_zero _ _, res_below HT2.out.bel (by omega), fun _ => ⟨rfl, rfl⟩, fun h => absurd h (fun q => by have := q.2.2.1; rw [HRK.out] at this; cases this), fun h => absurd h (fun q => by have := q.2.2.1; rw [HRK.out] at this; cases this)⟩
  have HRK := Lib.hid hrk
  clear hrk
  have x0 := HT2.out.bx.2 0 _ rfl
  have x1 := HT2.out.bx.2 1 _ rfl
  have x2 := HT2.out.bx.2 2 _ rfl
  have x3 := HT2.out.bx.2 3 _ rfl
  have x4 := HT2.out.bx.2 4 _ rfl
  go_wp2_with fail
  refine (right_prog x S' hx w2 (HXX.out.below HT2.out.bel (Nat.le_refl _)) HSX.out (by have := HCX.out; omega)).mono ?_
  rintro e w3 ⟨r, rfl, hr, hb3⟩
  have HT3 := Lib.hid (HT2.out.go hb3 HT2.out.sz)
  have HR := Lib.hid hr
  clear hb3 hr HT2 x0 x1 x2 x3 x4
  cases r
  · have z0 := HT3.out.res.cell (show 0 < 5 by decide)
    have z1 := HT3.out.res.cell (show 1 < 5 by decide)
    have z2 := HT3.out.res.cell (show 2 < 5 by decide)
    have z3 := HT3.out.res.cell (show 3 < 5 by decide)
    have z4 := HT3.out.res.cell (show 4 < 5 by decide)
    have g0 := HT3.out.res.frozen 0
    have g1 := HT3.out.res.frozen 1
    have g2 := HT3.out.res.frozen 2
    have g3 := HT3.out.res.frozen 3
    have g4 := HT3.out.res.frozen 4
    simp only [hdAt, Hd.cells, List.getD_cons_succ, List.getD_cons_zero] at z0 z1 z2 z3 z4
    go_wp2_with fail
    refine bodyPost_ret (v := .tuple #[.agg #[.int .i64 0, .int .i64 0, .string ByteArray.empty, .slice none 0 0, .slice none 0 0], .int .i64 1]) (by simp [results, Try.results31, go_sem, z0, z1, z2, z3, z4]; try rfl) rfl ?_
    exact ⟨zeroVa, zeroHd, 1, rfl, lies_zero _ _, res_below HT3.out.bel (by omega), fun _ => ⟨rfl, rfl⟩, fun h => absurd h (fun q => by have := HR.out.2 q.2.2.2; cases this), fun h => absurd h (fun q => by have := HR.out.2 q.2.2.2; cases this)⟩
  have HARG := Lib.hid (show h.k = 5 ∧ (Va.mk k n s l ks f).R 12 ∧ rightB key = true ∧ x.R 12 from ⟨HY1.out.1, HY1.out.2, HRK.out, HR.out.1 rfl⟩)
  clear HR HRK HY1
  have HND := Lib.hid (show ks.Nodup from by have := HARG.out.2.1; simp only [Va.R] at this; exact this.2.2.1.2)
  have q0 := HT3.out.bv.2 0 _ rfl
  have q1 := HT3.out.bv.2 1 _ rfl
  have q2 := HT3.out.bv.2 2 _ rfl
  have q3 := HT3.out.bv.2 3 _ rfl
  have q4 := HT3.out.bv.2 4 _ rfl
  go_wp2_with fail
  refine (anew_any (.mk k n s l ks f) S h w3 (HH.out.below HT3.out.bel (Nat.le_refl _)) HSH.out (by have := HCN.out; omega)).mono ?_
  rintro e w4 ⟨h4, T4, rfl, hown4, hT4, hb4⟩
  have HT4 := Lib.hid (HT3.out.go hb4 HT3.out.sz)
  have HL4 := Lib.hid (Own.lies _ _ _ hown4)
  have hlf4 : h4.lf = f.length := by have := HL4.out; simp only [Lies] at this; exact this.1.2.2.2.2.1
  have hsz3 := HT3.out.sz
  obtain ⟨k4, n4, s4, A4, la4, lc4, F4, lf4, fc4⟩ := h4
  simp only at hlf4
  subst hlf4
  have HO4 := Lib.hid hown4
  have HTR := Lib.hid hT4
  clear hown4 hT4 hb4 HT3 q0 q1 q2 q3 q4
  go_wp2_with fail
  have hb5 : Below w4.heap.size w4 (w4.alloc (Obj.cells #[.int .i64 k4, .int .i64 n4, .string s4, .slice A4 la4 lc4, .slice F4 f.length fc4] 25)) := one_alloc w4 _
  have hbw5 := Bx.start w4 ⟨k4, n4, s4, A4, la4, lc4, F4, f.length, fc4⟩ 25
  have hf5 : (w4.alloc (Obj.cells #[.int .i64 k4, .int .i64 n4, .string s4, .slice A4 la4 lc4, .slice F4 f.length fc4] 25)).frozen? ⟨w4.heap.size, 4, none⟩ = false := World.frozen?_alloc_new w4 _ _ 4
  generalize w4.alloc (Obj.cells #[.int .i64 k4, .int .i64 n4, .string s4, .slice A4 la4 lc4, .slice F4 f.length fc4] 25) = w5 at hb5 hbw5 hf5 ⊢
  have HF5 := Lib.hid hf5
  clear hf5
  have HT5 := Lib.hid (HT4.out.go hb5 HT4.out.sz)
  have HW5 := Lib.hid hbw5
  have HB5 := Lib.hid hb5
  have hsz4 := HT4.out.sz
  have hsz5 := HT5.out.sz
  clear hb5 hbw5
  refine (place_any ks key ⟨k4, n4, s4, A4, la4, lc4, F4, f.length, fc4⟩ w5 E6.out.symm (by have := E6.out; omega) ((HL4.out.op.keys E6.out).below HB5.out (Nat.le_refl _))).mono ?_
  rintro e w6 ⟨m, rfl, hp, hb6⟩
  have HP := Lib.hid hp
  have HT6 := Lib.hid (HT5.out.go hb6 HT5.out.sz)
  have HW6 := Lib.hid (HW5.out.go hb6 HW5.out.1)
  have hsz6 := HT6.out.sz
  have hle46 : w4.heap.size < w6.heap.size := HW6.out.1
  have HB6 := Lib.hid (HB5.out.trans (hb6.mono HB5.out.size))
  have hfz : w6.frozen? ⟨w4.heap.size, 4, none⟩ = false := (hb6.frozen (p := ⟨w4.heap.size, 4, none⟩) HW5.out.1).trans HF5.out
  clear hp hb6 HT5 HW5 HB5 HT4
  have hxs : SX5 (w.heap.size + 1) hx w6 := ⟨HT6.out.bx.2 0 _ rfl, HT6.out.bx.2 1 _ rfl, HT6.out.bx.2 2 _ rfl, HT6.out.bx.2 3 _ rfl, HT6.out.bx.2 4 _ rfl⟩
  have HXS := Lib.hid hxs
  have HFZ := Lib.hid hfz
  clear hfz
  have cW := HW6.out.2 4 _ rfl
  obtain ⟨x0, x1, x2, x3, x4⟩ := hxs
  have hx1s : w.heap.size + 1 < w6.heap.size := by omega
  have hneX : w.heap.size + 1 ≠ w4.heap.size := by omega
  rcases HP.out.ge with hm | hm
  · subst hm
    have hnk : Hid (key ∉ ks) := by
      rcases HP.out with ⟨_, h⟩ | ⟨i, h, _⟩
      · exact h
      · exact absurd h (by omega)
    obtain ⟨vs, hrow4, hrowT, happ⟩ := own_app HO4.out
    have HAPP := Lib.hid happ
    have HRT := Lib.hid hrowT
    have hrX : some (w.heap.size + 1) ≠ (Value.slice F4 f.length fc4).ownBlock := fun e => by have := HTR.out _ (hrowT _ e.symm); omega
    have hrW : some w4.heap.size ≠ (Value.slice F4 f.length fc4).ownBlock := fun e => by have := HTR.out _ (hrowT _ e.symm); omega
    have HRX := Lib.hid hrX
    have HRW := Lib.hid hrW
    have hrow6 := own_below hrow4 HB6.out (Nat.le_refl _)
    have HOWN := Lib.hid (show ∀ w1 w2, Below w6.drew.heap.size w6.drew w1 → Below w1.heap.size w1 w2 → w2.ownsRow 0 36 6 (.slice F4 f.length fc4) f.length ((ks.zip vs).flatMap pcells) from fun w1 w2 hb hb' => own_below (own_below (own_below hrow6 ((Below.refl w6.heap.size w6).drew) (Nat.le_refl _)) hb (Nat.le_refl _)) hb' (Nat.le_refl _))
    have HCLN := Lib.hid (fun wq : World => clone_any key (by omega) wq)
    have HCAL := Lib.hid (show ∀ w1, Below w6.drew.heap.size w6.drew w1 → Calls Try.prog 65 #[hx.val] w1 fun e w' => NewR x w1 e w' from
      fun w1 hb => anew_any x S' hx w1 (((HXX.out.below HT6.out.bel (Nat.le_refl _)).below ((Below.refl w6.heap.size w6).drew) (Nat.le_refl _)).below hb (Nat.le_refl _)) HSX.out (by have := HCX.out; omega))
    have fWb := HFZ.out
    obtain ⟨i0, hi0, hz0, hz1, hz2⟩ := info_parts info36
    have HXD := Lib.hid (SX5.imp (w' := w6.drew) HXS.out rfl)
    clear hrow4 hrowT happ hrX hrW hrow6
    go_wp2_with fail
    have hld : ldW = Op.load 23 (Operand.tmp 38) := rfl
    rw [show Op.load 23 (Operand.tmp 38) = ldW from rfl]
    go_region_held3 (fun w' => w'.cell? ⟨w.heap.size + 1, 0, none⟩ = some (.int .i64 hx.k) ∧ w'.cell? ⟨w.heap.size + 1, 1, none⟩ = some (.int .i64 hx.n) ∧ w'.cell? ⟨w.heap.size + 1, 2, none⟩ = some (.string hx.s) ∧ w'.cell? ⟨w.heap.size + 1, 3, none⟩ = some (.slice hx.A hx.la hx.lc) ∧ w'.cell? ⟨w.heap.size + 1, 4, none⟩ = some (.slice hx.F hx.lf hx.fc))
      (first
        | go_keep
        | (exact SX5.bel HXD.out hb1)
        | (exact SX5.bel (SX5.bel HXD.out hb1) hb2)
        | (exact SX5.alloc (SX5.bel (SX5.bel HXD.out hb1) hb2) _)
        | (exact SX5.grown (SX5.alloc (SX5.bel (SX5.bel HXD.out hb1) hb2) _) hgrow3 HRX.out)
        | (exact SX5.set (SX5.grown (SX5.alloc (SX5.bel (SX5.bel HXD.out hb1) hb2) _) hgrow3 HRX.out) hneX _)
        | skip)
      (first
        | (go_at_call 77; refine (Hid.out HCLN _).mono ?_; rintro e w7 ⟨rfl, hb1⟩; have cW1 := cur_call cW hb1; have fW1 := cur_frz cW fWb hb1)
        | (go_at_call 65; refine (Hid.out HCAL _ hb1).mono ?_; rintro e w8 ⟨hx', T7, rfl, hown7, hT7, hb2⟩; have cW2 := cur_bel cW1 hb2; have fW2 := cur_bfrz cW1 fW1 hb2; have hWw2 := World.block_lt_of_cell? w8 _ cW2)
        | (refine step_append_lies _ (by rfl) _ _ _ (by rfl) 0 36 i0 _ 6 96 Try.underlying23 hi0 hz0 hz1 hz2 rfl (by decide) (.slice F4 f.length fc4) f.length ((ks.zip vs).flatMap pcells) (by rfl) (World.ownsRow.alloc (Hid.out HOWN _ _ hb1 hb2) _) ⟨w8.heap.size, 0, none⟩ 1 1 (pcells (key, hx')) (by rfl) (by rfl) (World.news_of_block (heap_alloc_new w8 _)) (by simp [pcells, Hd.cells, Value.oneCell']) (by decide) (by unfold maxLen; omega) (by omega) (Nat.zero_le _) (w8.heap.size + 1) (by simp) ?_; intro g cap w9 hown9 hgrow3 hat9 hlt9; have cW3 := cur_grown cW2 hgrow3 HRW.out; have fW3 := cur_gfrz cW2 fW2 hgrow3 HRW.out)
        | fail)
    all_goals (
      have hb1' : Below w6.heap.size w6 w7 := ((Below.refl _ _).drew).trans hb1
      have hb68 : Below w6.heap.size w6 w8 := hb1'.trans (hb2.mono hb1'.size)
      have hs7 := hb1'.size
      have hs8 := hb2.size
      have hs9 := hgrow3.size
      simp only [World.size_alloc] at hs9
      have hrowlt : ∀ b, (Value.slice F4 f.length fc4).ownBlock = some b → w3.heap.size ≤ b ∧ b < w4.heap.size := fun b hb => HTR.out b (HRT.out b hb)
      have hgW : g ≠ w4.heap.size := by
        rcases hat9 with e | e
        · have := hrowlt g e; omega
        · omega
      have hgR : g ≠ w.heap.size + 2 := by
        rcases hat9 with e | e
        · have := hrowlt g e; omega
        · omega
      have hTBz : TB w h hx (w9.setCell ⟨w4.heap.size, 4, none⟩ (.slice (some ⟨g, 0, none⟩) (f.length + 1) cap)) :=
        (HT6.out.go hb68 (by omega)).go (B := w.heap.size + 3) ((((Below.refl (w.heap.size + 3) w8).alloc (by omega) _).grown hgrow3 (by simp; omega) (fun b hb => by have := hrowlt b hb; omega)).setCell (by show _ ≤ w4.heap.size; omega) _) (Nat.le_refl _)
      have hBWz : Bx (w9.setCell ⟨w4.heap.size, 4, none⟩ (.slice (some ⟨g, 0, none⟩) (f.length + 1) cap)) w4.heap.size ⟨k4, n4, s4, A4, la4, lc4, some ⟨g, 0, none⟩, f.length + 1, cap⟩ := by
        have h1 := HW6.out.go hb68 hle46
        have hW9 : w9.heap[w4.heap.size]? = w8.heap[w4.heap.size]? := by rw [hgrow3.block _ (by simp; omega) HRW.out, Below.heap_alloc _ _ _ (by omega)]
        refine ⟨by simp; omega, fun j c hc => ?_⟩
        have hj : j < 5 := (List.getElem?_eq_some_iff.1 hc).1
        have o9 : ∀ c', (Hd.cells ⟨k4, n4, s4, A4, la4, lc4, F4, f.length, fc4⟩)[j]? = some c' → w9.cell? ⟨w4.heap.size, j, none⟩ = some c' := fun c' h' => (World.cell?_of_block (a := ⟨w4.heap.size, j, none⟩) hW9).trans (h1.2 j c' h')
        match j, hj with
        | 0, _ => rw [World.cell?_setCell_other _ _ _ _ (by simp)]; exact o9 c hc
        | 1, _ => rw [World.cell?_setCell_other _ _ _ _ (by simp)]; exact o9 c hc
        | 2, _ => rw [World.cell?_setCell_other _ _ _ _ (by simp)]; exact o9 c hc
        | 3, _ => rw [World.cell?_setCell_other _ _ _ _ (by simp)]; exact o9 c hc
        | 4, _ =>
          simp only [Hd.cells, List.getElem?_cons_succ, List.getElem?_cons_zero, Option.some.injEq] at hc
          subst hc
          exact World.cell?_setCell_same _ _ _ (o9 _ rfl)
      have hLz := HAPP.out w8 w9 (w9.setCell ⟨w4.heap.size, 4, none⟩ (.slice (some ⟨g, 0, none⟩) (f.length + 1) cap)) _ g cap 0 w4.heap.size hx' x T7 key (fun b => b ≠ w.heap.size + 2) (fun b hb => by have := HTR.out b hb; omega) (fun b hb => by have h9 : w7.heap.size ≤ b := (hT7 b hb).1; omega) hgR
        (fun b hb => by have h9 := HTR.out b hb; exact ⟨(hb68.block b (by omega)).trans (HB6.out.block b h9.2), by omega⟩) hown7 (fun b hb => ⟨fun hb2 => by have h9 : w7.heap.size ≤ b := (hT7 b hb).1; have := HTR.out b hb2; omega, (hT7 b hb).2⟩) hown9 hgrow3 (fun b hb => Below.heap_setCell _ _ _ _ hb) (fun hb => by have := HTR.out _ hb; omega) (fun hb => by have h9 : w7.heap.size ≤ w4.heap.size := (hT7 _ hb).1; omega) hgW hat9 hkm (by unfold maxLen; omega)
      have hfw := fW_app (x := x) hnk.out E6.out
      have EQA := Lib.hid (show (Va.mk k n s l (ks ++ [key]) (f ++ [x])) = .mk k n s l (ksW ks key) (fW ks f key x) by rw [hfw.1, hfw.2])
      generalize w9.setCell ⟨w4.heap.size, 4, none⟩ (.slice (some ⟨g, 0, none⟩) (f.length + 1) cap) = wz at hTBz hBWz hLz ⊢
      have HLz := Lib.hid hLz
      have HTz := Lib.hid hTBz
      have HWz := Lib.hid hBWz
      clear hLz hTBz hBWz hb1' hb68 hb1 hb2 hT7 hown7 hown9 hgrow3 hat9 hlt9 hfw cW cW1 cW2 cW3 fWb fW1 fW2 fW3 x0 x1 x2 x3 x4 HOWN HCAL HCLN HXS HXD HT6 HW6 HAPP hrowlt hld
      have b0 := HWz.out.2 0 _ rfl
      have b1 := HWz.out.2 1 _ rfl
      have b2 := HWz.out.2 2 _ rfl
      have b3 := HWz.out.2 3 _ rfl
      have b4 := HWz.out.2 4 _ rfl
      have hszz := HTz.out.sz
      go_wp2_with fail
      refine (right_prog (.mk k n s l (ks ++ [key]) (f ++ [x])) _ ⟨k4, n4, s4, A4, la4, lc4, some ⟨g, 0, none⟩, f.length + 1, cap⟩ wz HLz.out (sh_app HSH.out HSX.out hk5).1 (Nat.le_trans (sh_app HSH.out HSX.out hk5).2 (by have := HCN.out; have := HCX.out; omega))).mono ?_
      rintro e wy ⟨r, rfl, hr, hby⟩
      have HTy := Lib.hid (HTz.out.go hby hszz)
      have HWy := Lib.hid (HWz.out.go hby HWz.out.1)
      have HLy := Lib.hid (HLz.out.below hby (Nat.le_refl _))
      have HR := Lib.hid hr
      clear hr hby b0 b1 b2 b3 b4
      cases r
      · have z0 := HTy.out.res.cell (show 0 < 5 by decide)
        have z1 := HTy.out.res.cell (show 1 < 5 by decide)
        have z2 := HTy.out.res.cell (show 2 < 5 by decide)
        have z3 := HTy.out.res.cell (show 3 < 5 by decide)
        have z4 := HTy.out.res.cell (show 4 < 5 by decide)
        have g0 := HTy.out.res.frozen 0
        have g1 := HTy.out.res.frozen 1
        have g2 := HTy.out.res.frozen 2
        have g3 := HTy.out.res.frozen 3
        have g4 := HTy.out.res.frozen 4
        simp only [hdAt, Hd.cells, List.getD_cons_succ, List.getD_cons_zero] at z0 z1 z2 z3 z4
        go_wp2_with fail
        refine bodyPost_ret (v := .tuple #[.agg #[.int .i64 0, .int .i64 0, .string ByteArray.empty, .slice none 0 0, .slice none 0 0], .int .i64 5]) (by simp [results, Try.results31, go_sem, z0, z1, z2, z3, z4]; try rfl) rfl ?_
        exact ⟨zeroVa, zeroHd, 5, rfl, lies_zero _ _, res_below HTy.out.bel (by omega), fun h => absurd HARG.out h, fun _ _ => ⟨rfl, rfl⟩, fun _ hR => absurd (HR.out.2 (by rw [EQA.out]; exact hR)) (by decide)⟩
      · have b0 := HWy.out.2 0 _ rfl
        have b1 := HWy.out.2 1 _ rfl
        have b2 := HWy.out.2 2 _ rfl
        have b3 := HWy.out.2 3 _ rfl
        have b4 := HWy.out.2 4 _ rfl
        have z0 := HTy.out.res.cell (show 0 < 5 by decide)
        have z1 := HTy.out.res.cell (show 1 < 5 by decide)
        have z2 := HTy.out.res.cell (show 2 < 5 by decide)
        have z3 := HTy.out.res.cell (show 3 < 5 by decide)
        have z4 := HTy.out.res.cell (show 4 < 5 by decide)
        have g0 := HTy.out.res.frozen 0
        have g1 := HTy.out.res.frozen 1
        have g2 := HTy.out.res.frozen 2
        have g3 := HTy.out.res.frozen 3
        have g4 := HTy.out.res.frozen 4
        simp only [hdAt, Hd.cells, List.getD_cons_succ, List.getD_cons_zero] at z0 z1 z2 z3 z4
        go_wp2_with fail
        refine bodyPost_ret (v := .tuple #[.agg #[.int .i64 k4, .int .i64 n4, .string s4, .slice (A4) (la4) (lc4), .slice (some ⟨g, 0, none⟩) (f.length + 1) (cap)], .int .i64 0]) (by simp [results, Try.results31, go_sem, z0, z1, z2, z3, z4]) rfl ?_
        refine ⟨.mk k n s l (ks ++ [key]) (f ++ [x]), ⟨k4, n4, s4, A4, la4, lc4, some ⟨g, 0, none⟩, f.length + 1, cap⟩, 0, rfl, Lies.keep (fun pp hp _ => World.cell?_of_block (res_set (w := w) pp.block hp)) (fun _ _ _ => trivial) _ _ HLy.out, res_below HTy.out.bel (by omega), fun h => absurd HARG.out h, fun _ hR => absurd (HR.out.1 (by first | rfl | trivial)) (by rw [EQA.out]; exact hR), fun _ _ => ⟨rfl, EQA.out⟩⟩)
  · obtain ⟨i, hi⟩ : ∃ i : Nat, m = (i : Int) := ⟨m.toNat, by omega⟩
    subst hi
    have hki : ks[i]? = some key := by
      rcases HP.out with ⟨h, _⟩ | ⟨j, h, h1, _⟩
      · exact absurd h (by omega)
      · rw [show i = j by omega]; exact h1
    have hil : i < f.length := by have := (List.getElem?_eq_some_iff.1 hki).1; have := E6.out; omega
    have HKI := Lib.hid hki
    clear hki
    obtain ⟨g, cap, cur, hg, hTg, hh, hcap, hcs⟩ := own_row HO4.out (by omega)
    obtain rfl : F4 = some ⟨g, 0, none⟩ := hg
    have hg4 := HTR.out g hTg
    have hif : (i : Int) < (f.length : Int) := by omega
    have hi0 : (0 : Int) ≤ (i : Int) := by omega
    have hgW : g ≠ w4.heap.size := by omega
    have hgX : g ≠ w.heap.size + 1 := by omega
    have HROW := Lib.hid (show ∀ w7, Below w6.drew.heap.size w6.drew w7 → w7.heap[g]? = some (.cells cur 36 (0, 0)) from fun w7 hb => by
      have h1 : w6.heap[g]? = w4.heap[g]? := HB6.out.block g hg4.2
      exact ((hb.block g (show g < w6.heap.size by omega)).trans h1).trans hh)
    have HCAL := Lib.hid (anew_any x S' hx w6.drew ((HXX.out.below HT6.out.bel (Nat.le_refl _)).below ((Below.refl w6.heap.size w6).drew) (Nat.le_refl _)) HSX.out (by have := HCX.out; omega))
    have HCS := Lib.hid hcs
    clear hh hcs
    have hWlt : w4.heap.size < w6.drew.heap.size := hle46
    have hXlt : w.heap.size + 1 < w6.drew.heap.size := hx1s
    go_wp2_with fail
    go_region_held3 (fun w' => w'.cell? ⟨w4.heap.size, 4, none⟩ = some (.slice (some ⟨g, 0, none⟩) f.length fc4) ∧ w'.cell? ⟨w.heap.size + 1, 0, none⟩ = some (.int .i64 hx.k) ∧ w'.cell? ⟨w.heap.size + 1, 1, none⟩ = some (.int .i64 hx.n) ∧ w'.cell? ⟨w.heap.size + 1, 2, none⟩ = some (.string hx.s) ∧ w'.cell? ⟨w.heap.size + 1, 3, none⟩ = some (.slice hx.A hx.la hx.lc) ∧ w'.cell? ⟨w.heap.size + 1, 4, none⟩ = some (.slice hx.F hx.lf hx.fc))
      (first
        | go_keep
        | (exact ⟨cellWF cW (hb7.block _ hWlt), SX5.imp HXS.out (hb7.block _ hXlt)⟩)
        | (exact ⟨cellWF (cellWF cW (hb7.block _ hWlt)) (put5_blk hgW.symm), SX5.imp (SX5.imp HXS.out (hb7.block _ hXlt)) (put5_blk hgX.symm)⟩)
        | skip)
      (first
        | (go_at_call 65; refine (Hid.out HCAL).mono ?_; rintro e w7 ⟨hx', T7, rfl, hown7, hT7, hb7⟩; obtain ⟨v1, c1⟩ := row_facts (HROW.out w7 hb7) HCS.out (Nat.lt_of_lt_of_le hil hcap) 1 (by decide); obtain ⟨v2, c2⟩ := row_facts (HROW.out w7 hb7) HCS.out (Nat.lt_of_lt_of_le hil hcap) 2 (by decide); obtain ⟨v3, c3⟩ := row_facts (HROW.out w7 hb7) HCS.out (Nat.lt_of_lt_of_le hil hcap) 3 (by decide); obtain ⟨v4, c4⟩ := row_facts (HROW.out w7 hb7) HCS.out (Nat.lt_of_lt_of_le hil hcap) 4 (by decide); obtain ⟨v5, c5⟩ := row_facts (HROW.out w7 hb7) HCS.out (Nat.lt_of_lt_of_le hil hcap) 5 (by decide); have d1 := row_frozen (p := i * 6 + 1) (HROW.out w7 hb7); have d2 := row_frozen (p := i * 6 + 2) (HROW.out w7 hb7); have d3 := row_frozen (p := i * 6 + 3) (HROW.out w7 hb7); have d4 := row_frozen (p := i * 6 + 4) (HROW.out w7 hb7); have d5 := row_frozen (p := i * 6 + 5) (HROW.out w7 hb7))
        | fail)
    have hb7' : Below w6.heap.size w6 w7 := ((Below.refl _ _).drew).trans hb7
    have hgl : w.heap.size + 3 ≤ g := by omega
    have hs7 := hb7'.size
    have hTB8 : TB w h hx (((((w7.setCell ⟨g, i * 6 + 1, none⟩ (.int .i64 hx'.k)).setCell ⟨g, i * 6 + 1 + 1, none⟩ (.int .i64 hx'.n)).setCell ⟨g, i * 6 + 1 + 2, none⟩ (.string hx'.s)).setCell ⟨g, i * 6 + 1 + 3, none⟩ (.slice hx'.A hx'.la hx'.lc)).setCell ⟨g, i * 6 + 1 + 4, none⟩ (.slice hx'.F hx'.lf hx'.fc)) := (HT6.out.go hb7' (by omega)).go (B := w.heap.size + 3) (((((((Below.refl _ w7).setCell hgl _).setCell hgl _).setCell hgl _).setCell hgl _).setCell hgl _)) (Nat.le_refl _)
    have hBW8 : Bx (((((w7.setCell ⟨g, i * 6 + 1, none⟩ (.int .i64 hx'.k)).setCell ⟨g, i * 6 + 1 + 1, none⟩ (.int .i64 hx'.n)).setCell ⟨g, i * 6 + 1 + 2, none⟩ (.string hx'.s)).setCell ⟨g, i * 6 + 1 + 3, none⟩ (.slice hx'.A hx'.la hx'.lc)).setCell ⟨g, i * 6 + 1 + 4, none⟩ (.slice hx'.F hx'.lf hx'.fc)) w4.heap.size ⟨k4, n4, s4, A4, la4, lc4, some ⟨g, 0, none⟩, f.length, fc4⟩ := by
      have h1 := HW6.out.go hb7' hle46
      have hsz8 : (((((w7.setCell ⟨g, i * 6 + 1, none⟩ (.int .i64 hx'.k)).setCell ⟨g, i * 6 + 1 + 1, none⟩ (.int .i64 hx'.n)).setCell ⟨g, i * 6 + 1 + 2, none⟩ (.string hx'.s)).setCell ⟨g, i * 6 + 1 + 3, none⟩ (.slice hx'.A hx'.la hx'.lc)).setCell ⟨g, i * 6 + 1 + 4, none⟩ (.slice hx'.F hx'.lf hx'.fc)).heap.size = w7.heap.size := by simp
      exact ⟨by rw [hsz8]; exact h1.1, fun j c hc => (World.cell?_of_block (a := ⟨w4.heap.size, j, none⟩) (put5_blk hgW.symm)).trans (h1.2 j c hc)⟩
    have hT4' : ∀ b, T4 b → w7.heap[b]? = w4.heap[b]? := fun b hb => by
      have h1 := HTR.out b hb
      rw [hb7'.block b (by omega)]
      exact HB6.out.block b h1.2
    have hLz : Lies (((((w7.setCell ⟨g, i * 6 + 1, none⟩ (.int .i64 hx'.k)).setCell ⟨g, i * 6 + 1 + 1, none⟩ (.int .i64 hx'.n)).setCell ⟨g, i * 6 + 1 + 2, none⟩ (.string hx'.s)).setCell ⟨g, i * 6 + 1 + 3, none⟩ (.slice hx'.A hx'.la hx'.lc)).setCell ⟨g, i * 6 + 1 + 4, none⟩ (.slice hx'.F hx'.lf hx'.fc)) (fun b => b ≠ w.heap.size + 2) (.mk k n s l ks (f.set i x)) ⟨k4, n4, s4, A4, la4, lc4, some ⟨g, 0, none⟩, f.length, fc4⟩ :=
      lies_put (fun b hb => by have := HTR.out b hb; omega) (fun b hb => by have := hT7 b hb; have : w6.heap.size ≤ b := (hT7 b hb).1; omega) HO4.out hT4' hil hown7 (fun b hb hb2 => by have h1 : w6.heap.size ≤ b := (hT7 b hb).1; have := HTR.out b hb2; omega) rfl
    have hfw := fW_set (x := x) HND.out HKI.out E6.out
    have EQA := Lib.hid (show (Va.mk k n s l ks (f.set i x)) = .mk k n s l (ksW ks key) (fW ks f key x) by rw [hfw.1, hfw.2])
    generalize (((((w7.setCell ⟨g, i * 6 + 1, none⟩ (.int .i64 hx'.k)).setCell ⟨g, i * 6 + 1 + 1, none⟩ (.int .i64 hx'.n)).setCell ⟨g, i * 6 + 1 + 2, none⟩ (.string hx'.s)).setCell ⟨g, i * 6 + 1 + 3, none⟩ (.slice hx'.A hx'.la hx'.lc)).setCell ⟨g, i * 6 + 1 + 4, none⟩ (.slice hx'.F hx'.lf hx'.fc)) = w8 at hTB8 hBW8 hLz ⊢
    have HLz := Lib.hid hLz
    have HTz := Lib.hid hTB8
    have HWz := Lib.hid hBW8
    clear hLz hTB8 hBW8 hT4' hb7' hb7 hT7 hown7 hfw cW x0 x1 x2 x3 x4 c1 c2 c3 c4 c5 d1 d2 d3 d4 d5 HROW HCAL HXS HT6 HW6
    have b0 := HWz.out.2 0 _ rfl
    have b1 := HWz.out.2 1 _ rfl
    have b2 := HWz.out.2 2 _ rfl
    have b3 := HWz.out.2 3 _ rfl
    have b4 := HWz.out.2 4 _ rfl
    have hszz := HTz.out.sz
    go_wp2_with fail
    refine (right_prog (.mk k n s l ks (f.set i x)) _ ⟨k4, n4, s4, A4, la4, lc4, some ⟨g, 0, none⟩, f.length, fc4⟩ w8 HLz.out (sh_put HSH.out HSX.out i).1 (Nat.le_trans (sh_put HSH.out HSX.out i).2 (by have := HCN.out; have := HCX.out; omega))).mono ?_
    rintro e wy ⟨r, rfl, hr, hby⟩
    have HTy := Lib.hid (HTz.out.go hby hszz)
    have HWy := Lib.hid (HWz.out.go hby HWz.out.1)
    have HLy := Lib.hid (HLz.out.below hby (Nat.le_refl _))
    have HR := Lib.hid hr
    clear hr hby b0 b1 b2 b3 b4
    cases r
    · have z0 := HTy.out.res.cell (show 0 < 5 by decide)
      have z1 := HTy.out.res.cell (show 1 < 5 by decide)
      have z2 := HTy.out.res.cell (show 2 < 5 by decide)
      have z3 := HTy.out.res.cell (show 3 < 5 by decide)
      have z4 := HTy.out.res.cell (show 4 < 5 by decide)
      have g0 := HTy.out.res.frozen 0
      have g1 := HTy.out.res.frozen 1
      have g2 := HTy.out.res.frozen 2
      have g3 := HTy.out.res.frozen 3
      have g4 := HTy.out.res.frozen 4
      simp only [hdAt, Hd.cells, List.getD_cons_succ, List.getD_cons_zero] at z0 z1 z2 z3 z4
      go_wp2_with fail
      refine bodyPost_ret (v := .tuple #[.agg #[.int .i64 0, .int .i64 0, .string ByteArray.empty, .slice none 0 0, .slice none 0 0], .int .i64 5]) (by simp [results, Try.results31, go_sem, z0, z1, z2, z3, z4]; try rfl) rfl ?_
      exact ⟨zeroVa, zeroHd, 5, rfl, lies_zero _ _, res_below HTy.out.bel (by omega), fun h => absurd HARG.out h, fun _ _ => ⟨rfl, rfl⟩, fun _ hR => absurd (HR.out.2 (by rw [EQA.out]; exact hR)) (by decide)⟩
    · have b0 := HWy.out.2 0 _ rfl
      have b1 := HWy.out.2 1 _ rfl
      have b2 := HWy.out.2 2 _ rfl
      have b3 := HWy.out.2 3 _ rfl
      have b4 := HWy.out.2 4 _ rfl
      have z0 := HTy.out.res.cell (show 0 < 5 by decide)
      have z1 := HTy.out.res.cell (show 1 < 5 by decide)
      have z2 := HTy.out.res.cell (show 2 < 5 by decide)
      have z3 := HTy.out.res.cell (show 3 < 5 by decide)
      have z4 := HTy.out.res.cell (show 4 < 5 by decide)
      have g0 := HTy.out.res.frozen 0
      have g1 := HTy.out.res.frozen 1
      have g2 := HTy.out.res.frozen 2
      have g3 := HTy.out.res.frozen 3
      have g4 := HTy.out.res.frozen 4
      simp only [hdAt, Hd.cells, List.getD_cons_succ, List.getD_cons_zero] at z0 z1 z2 z3 z4
      go_wp2_with fail
      refine bodyPost_ret (v := .tuple #[.agg #[.int .i64 k4, .int .i64 n4, .string s4, .slice (A4) (la4) (lc4), .slice (some ⟨g, 0, none⟩) (f.length) (fc4)], .int .i64 0]) (by simp [results, Try.results31, go_sem, z0, z1, z2, z3, z4]) rfl ?_
      refine ⟨.mk k n s l ks (f.set i x), ⟨k4, n4, s4, A4, la4, lc4, some ⟨g, 0, none⟩, f.length, fc4⟩, 0, rfl, Lies.keep (fun pp hp _ => World.cell?_of_block (res_set (w := w) pp.block hp)) (fun _ _ _ => trivial) _ _ HLy.out, res_below HTy.out.bel (by omega), fun h => absurd HARG.out h, fun _ hR => absurd (HR.out.1 (by first | rfl | trivial)) (by rw [EQA.out]; exact hR), fun _ _ => ⟨rfl, EQA.out⟩⟩
end Go.Proofs.Ytmdlcalnncncjaa
