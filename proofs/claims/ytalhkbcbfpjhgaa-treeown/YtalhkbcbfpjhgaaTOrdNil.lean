/- tree.Ordered by no keys, walked. -/
import Derived.Test.YtalhkbcbfpjhgaaTStabNil
import Derived.Test.YtalhkbcbfpjhgaaTWithPr
set_option linter.unusedVariables false
set_option linter.unusedSimpArgs false
namespace Go.Proofs.Ytalhkbcbfpjhgaa
open Go.RowKit Classical
/-- The three blocks of a call of Ordered. -/
structure OB (w : World) (h : Hd) (wr : World) : Prop where
  bel : Below w.heap.size w wr
  bv : Bx wr w.heap.size h
  kv : wr.cell? ⟨w.heap.size + 1, 0, none⟩ = some (.slice none 0 0)
  res : wr.rowIs (w.heap.size + 2) 25 5 zeroRes
  sz : w.heap.size + 3 ≤ wr.heap.size
theorem OB.go {w wr wr' : World} {h : Hd} {B : Nat} (H : OB w h wr) (hb : Below B wr wr') (hB : w.heap.size + 3 ≤ B) : OB w h wr' :=
  ⟨H.bel.trans (hb.mono (by omega)), H.bv.go hb (by omega), (hb.cell (p := ⟨w.heap.size + 1, 0, none⟩) (by show w.heap.size + 1 < B; omega)).trans H.kv, rowIs_below H.res hb (by omega), Nat.le_trans H.sz hb.size⟩
theorem OB.start (w : World) (h : Hd) : OB w h (((w.alloc (Obj.cells #[.int .i64 h.k, .int .i64 h.n, .string h.s, .slice h.A h.la h.lc, .slice h.F h.lf h.fc] 25)).alloc (Obj.cells #[.slice none 0 0] 44)).alloc (Obj.cells #[.int .i64 0, .int .i64 0, .string { data := #[] }, .slice none 0 0, .slice none 0 0] 25)) := by
  refine ⟨((one_alloc w _).alloc (by simp) _).alloc (by simp; omega) _, ((Bx.start w h 25).alloc _).alloc _, ?_, hdAt_row (h := zeroHd) ?_, by simp⟩
  · have h9 := heap_alloc_new (w.alloc (Obj.cells #[.int .i64 h.k, .int .i64 h.n, .string h.s, .slice h.A h.la h.lc, .slice h.F h.lf h.fc] 25)) (Obj.cells #[.slice none 0 0] 44)
    rw [World.size_alloc] at h9
    have h8 := Below.heap_alloc ((w.alloc (Obj.cells #[.int .i64 h.k, .int .i64 h.n, .string h.s, .slice h.A h.la h.lc, .slice h.F h.lf h.fc] 25)).alloc (Obj.cells #[.slice none 0 0] 44)) (Obj.cells #[.int .i64 0, .int .i64 0, .string { data := #[] }, .slice none 0 0, .slice none 0 0] 25) (w.heap.size + 1) (by simp)
    rw [cell_of_row _ (w.heap.size + 1) _ #[.slice none 0 0] 44 (0, 0) (h8.trans h9)]
    rfl
  · have h9 := heap_alloc_new ((w.alloc (Obj.cells #[.int .i64 h.k, .int .i64 h.n, .string h.s, .slice h.A h.la h.lc, .slice h.F h.lf h.fc] 25)).alloc (Obj.cells #[.slice none 0 0] 44)) (Obj.cells #[.int .i64 0, .int .i64 0, .string { data := #[] }, .slice none 0 0, .slice none 0 0] 25)
    rwa [World.size_alloc, World.size_alloc] at h9
/-- What Ordered by no keys answers. -/
def OrdQ (arg : Prop) (a : Va) (w : World) (e : Ending) (w' : World) : Prop := ∃ (b : Va) (h' : Hd) (T : Nat → Prop) (er : Int), e = .returned (.tuple #[.agg #[.int .i64 h'.k, .int .i64 h'.n, .string h'.s, .slice h'.A h'.la h'.lc, .slice h'.F h'.lf h'.fc], .int .i64 er]) ∧ Own w' b T h' ∧ (∀ x, T x → w.heap.size ≤ x ∧ x < w'.heap.size) ∧ Below w.heap.size w w' ∧ (arg → er = 0 ∧ b = a) ∧ (¬ arg → er = 1 ∧ b = zeroVa)
set_option maxHeartbeats 2000000 in
set_option maxRecDepth 100000 in
theorem ord_nil (k n : Int) (s : ByteArray) (l : List Va) (ks : List ByteArray) (f : List Va) (S : Nat → Prop) (h : Hd) (w : World) (H : Lies w S (.mk k n s l ks f) h) (hsh : (Va.mk k n s l ks f).Sh) (hcn : (Va.mk k n s l ks f).cnt ≤ 1000) :
    Calls Try.prog 27 #[h.val, .slice none 0 0] w fun e w' => OrdQ (h.k = 5 ∧ (Va.mk k n s l ks f).R 12) (.mk k n s l ks f) w e w' := by
  have HH := Lib.hid H
  have HSH := Lib.hid hsh
  have hcn2 := hcn
  simp only [Va.cnt] at hcn2
  have hfl : f.length ≤ 1000 := by have := len_le_cntL f; omega
  have HCN := Lib.hid hcn
  simp only [Lies] at H
  obtain ⟨⟨e1, e2, e3, e4, e5, e6⟩, -, -, -⟩ := H
  have E6 := Lib.hid e6
  clear hsh hcn2 hcn e1 e2 e3 e4 e5 e6
  have htb := OB.start w h
  have HTB := Lib.hid htb
  have hob := object_prog (.mk k n s l ks f) S h _ (HH.out.below htb.bel (Nat.le_refl _)) HSH.out (by have := HCN.out; omega)
  have HOB := Lib.hid hob
  clear hob htb
  unfold Hd.val at *
  go_enter Try.func27, Try.ntmps27
  go_wp2_with fail
  refine HOB.out.mono ?_
  rintro e w1 ⟨r, rfl, hr, hb1⟩
  have HT1 := Lib.hid (HTB.out.go hb1 (by simp))
  have HR := Lib.hid hr
  clear hb1 hr HOB HTB
  cases r
  · have z0 := HT1.out.res.cell (show 0 < 5 by decide)
    have z1 := HT1.out.res.cell (show 1 < 5 by decide)
    have z2 := HT1.out.res.cell (show 2 < 5 by decide)
    have z3 := HT1.out.res.cell (show 3 < 5 by decide)
    have z4 := HT1.out.res.cell (show 4 < 5 by decide)
    have g0 := HT1.out.res.frozen 0
    have g1 := HT1.out.res.frozen 1
    have g2 := HT1.out.res.frozen 2
    have g3 := HT1.out.res.frozen 3
    have g4 := HT1.out.res.frozen 4
    simp only [hdAt, Hd.cells, List.getD_cons_succ, List.getD_cons_zero] at z0 z1 z2 z3 z4
    go_wp2_with fail
    refine bodyPost_ret (v := .tuple #[.agg #[.int .i64 0, .int .i64 0, .string ByteArray.empty, .slice none 0 0, .slice none 0 0], .int .i64 1]) (by simp [results, Try.results27, go_sem, z0, z1, z2, z3, z4]; try rfl) rfl ?_
    exact ⟨zeroVa, zeroHd, fun _ => False, 1, rfl, own_zero _, fun _ h => h.elim, res_below HT1.out.bel (by omega), fun q => absurd (HR.out.2 q) (by decide), fun _ => ⟨rfl, rfl⟩⟩
  have HARG := Lib.hid (HR.out.1 rfl)
  clear HR
  have kv := HT1.out.kv
  have hs1 := HT1.out.sz
  go_wp2_with fail
  refine (places_any [] none 0 w1 (by simp) (by simp) ⟨rfl, fun h => absurd h (by simp)⟩).mono ?_
  rintro e w2 ⟨hb2, hp⟩
  have hp2 : ∃ b n D, e = .returned (.tuple #[.map (some b), .bool true]) ∧ w1.heap.size ≤ b ∧ w2.ownsMap Try.prog 9 (plainElem Try.prog 3) b n D ∧ MapTo D [] 0 := by
    rcases hp with ⟨_, h⟩ | ⟨h, _⟩
    · exact h
    · exact absurd List.nodup_nil h
  clear hp
  obtain ⟨mb, mn, D, rfl, hmb, hown, hto⟩ := hp2
  have HT2 := Lib.hid (HT1.out.go hb2 HT1.out.sz)
  have hmlt : mb < w2.heap.size := by
    obtain ⟨es, clock, h1, h2⟩ := hown
    exact (Array.getElem?_eq_some_iff.1 h1).1
  have HOWN := Lib.hid hown
  have HTO := Lib.hid hto
  clear hown hto hb2 HT1 kv
  have kv := HT2.out.kv
  have hs2 := HT2.out.sz
  have hbB : Below w2.heap.size w2 ((w2.alloc (Obj.cells #[Value.map (some mb)] 56)).alloc (Obj.cells #[closR w2.heap.size (w.heap.size + 1)] 60)) := (one_alloc w2 _).alloc (by simp) _
  have HT3 := Lib.hid (HT2.out.go hbB hs2)
  have q0 := HT3.out.bv.2 0 _ rfl
  have q1 := HT3.out.bv.2 1 _ rfl
  have q2 := HT3.out.bv.2 2 _ rfl
  have q3 := HT3.out.bv.2 3 _ rfl
  have q4 := HT3.out.bv.2 4 _ rfl
  have hmA : ((w2.alloc (Obj.cells #[Value.map (some mb)] 56)).alloc (Obj.cells #[closR w2.heap.size (w.heap.size + 1)] 60)).cell? ⟨w2.heap.size, 0, none⟩ = some (.map (some mb)) := by
    have h9 := heap_alloc_new w2 (Obj.cells #[Value.map (some mb)] 56)
    rw [cell_of_row _ w2.heap.size _ #[Value.map (some mb)] 56 (0, 0) ((Below.heap_alloc _ _ _ (by simp)).trans h9)]
    rfl
  have hrA : ((w2.alloc (Obj.cells #[Value.map (some mb)] 56)).alloc (Obj.cells #[closR w2.heap.size (w.heap.size + 1)] 60)).cell? ⟨w2.heap.size + 1, 0, none⟩ = some (closR w2.heap.size (w.heap.size + 1)) := by
    have h9 := heap_alloc_new (w2.alloc (Obj.cells #[Value.map (some mb)] 56)) (Obj.cells #[closR w2.heap.size (w.heap.size + 1)] 60)
    rw [World.size_alloc] at h9
    rw [cell_of_row _ (w2.heap.size + 1) _ #[closR w2.heap.size (w.heap.size + 1)] 60 (0, 0) h9]
    rfl
  have hszA : ((w2.alloc (Obj.cells #[Value.map (some mb)] 56)).alloc (Obj.cells #[closR w2.heap.size (w.heap.size + 1)] 60)).heap.size = w2.heap.size + 2 := by simp
  have hra : RankAt ((w2.alloc (Obj.cells #[Value.map (some mb)] 56)).alloc (Obj.cells #[closR w2.heap.size (w.heap.size + 1)] 60)) w2.heap.size (w.heap.size + 1) [] mb mn D none 0 := by
    refine ⟨hmA, HT3.out.kv, ?_, HTO.out, by rw [hszA]; omega⟩
    obtain ⟨es, clock, h1, h2⟩ := HOWN.out
    exact ⟨es, clock, (hbB.block mb hmlt).trans h1, h2⟩
  have HRA := Lib.hid hra
  have HRV := Lib.hid hrA
  clear hmA hrA hra hbB
  go_wp2_with fail
  have HAN := Lib.hid (fun (wx : World) (hx : OB w h wx) => anew_any (.mk k n s l ks f) S h wx (HH.out.below hx.bel (Nat.le_refl _)) HSH.out HCN.out)
  generalize (w2.alloc (Obj.cells #[Value.map (some mb)] 56)).alloc (Obj.cells #[closR w2.heap.size (w.heap.size + 1)] 60) = w3 at *
  refine (HAN.out w3 HT3.out).mono ?_
  rintro e w4 ⟨h4, T4, rfl, hown4, hT4, hb4⟩
  have HT4 := Lib.hid (HT3.out.go hb4 HT3.out.sz)
  have HL4 := Lib.hid (Own.lies _ _ _ hown4)
  have hlf4 : h4.lf = f.length := by have := HL4.out; simp only [Lies] at this; exact this.1.2.2.2.2.1
  have hsz4 := HT4.out.sz
  have hs34 := hb4.size
  have HRA4 := Lib.hid (HRA.out.below hb4)
  have HRV4 := Lib.hid (cur_bel HRV.out hb4)
  have HO4 := Lib.hid hown4
  have HTR := Lib.hid hT4
  obtain ⟨k4, n4, s4, A4, la4, lc4, F4, lf4, fc4⟩ := h4
  simp only at hlf4
  rw [← E6.out] at hlf4
  subst hlf4
  clear hown4 hT4 hb4 HT3 HT2 HRA HRV HAN q0 q1 q2 q3 q4 kv
  go_wp2_with fail
  have hb5 : Below w4.heap.size w4 (w4.alloc (Obj.cells #[.int .i64 k4, .int .i64 n4, .string s4, .slice A4 la4 lc4, .slice F4 ks.length fc4] 25)) := one_alloc w4 _
  have hbw5 := Bx.start w4 ⟨k4, n4, s4, A4, la4, lc4, F4, ks.length, fc4⟩ 25
  generalize w4.alloc (Obj.cells #[.int .i64 k4, .int .i64 n4, .string s4, .slice A4 la4 lc4, .slice F4 ks.length fc4] 25) = w5 at hb5 hbw5 ⊢
  have HT5 := Lib.hid (HT4.out.go hb5 HT4.out.sz)
  have HNC := Lib.hid (show NilC w5 (w2.heap.size + 1) w2.heap.size (w.heap.size + 1) mb mn D none 0 F4 ks from ⟨HRA4.out.below hb5, cur_bel HRV4.out hb5, (HL4.out.op.keys E6.out).below hb5 (Nat.le_refl _)⟩)
  have HML := Lib.hid (show ∀ x ∈ ks, x.size ≤ maxLen from fun x hx => Nat.le_trans (by have := HSH.out; simp only [Va.Sh] at this; exact this.2.2.1 x hx) (show (500 : Nat) ≤ maxLen by decide))
  refine (sort_nil F4 fc4 ks (w2.heap.size + 1) w2.heap.size (w.heap.size + 1) mb mn D none 0 w5 HNC.out (by have := E6.out; omega) HML.out).mono ?_
  rintro e w6 ⟨rfl, hb6⟩
  have HT6 := Lib.hid (HT5.out.go hb6 HT5.out.sz)
  have HW6 := Lib.hid (hbw5.go hb6 hbw5.1)
  have hs6 : w4.heap.size ≤ w6.heap.size := Nat.le_trans hb5.size hb6.size
  have HO6 := Lib.hid (Own.keep _ _ _ HO4.out (fun b hb => ((hb5.trans (hb6.mono hb5.size)).block b (HTR.out b hb).2)))
  clear hb5 hb6 hbw5 HT5 HT4 HNC
  have b0 := HW6.out.2 0 _ rfl
  have b1 := HW6.out.2 1 _ rfl
  have b2 := HW6.out.2 2 _ rfl
  have b3 := HW6.out.2 3 _ rfl
  have b4 := HW6.out.2 4 _ rfl
  have z0 := HT6.out.res.cell (show 0 < 5 by decide)
  have z1 := HT6.out.res.cell (show 1 < 5 by decide)
  have z2 := HT6.out.res.cell (show 2 < 5 by decide)
  have z3 := HT6.out.res.cell (show 3 < 5 by decide)
  have z4 := HT6.out.res.cell (show 4 < 5 by decide)
  have g0 := HT6.out.res.frozen 0
  have g1 := HT6.out.res.frozen 1
  have g2 := HT6.out.res.frozen 2
  have g3 := HT6.out.res.frozen 3
  have g4 := HT6.out.res.frozen 4
  simp only [hdAt, Hd.cells, List.getD_cons_succ, List.getD_cons_zero] at z0 z1 z2 z3 z4
  go_wp2_with fail
  refine bodyPost_ret (v := .tuple #[.agg #[.int .i64 k4, .int .i64 n4, .string s4, .slice A4 la4 lc4, .slice F4 ks.length fc4], .int .i64 0]) (by simp [results, Try.results27, go_sem, z0, z1, z2, z3, z4]) rfl ?_
  obtain ⟨h2, h3⟩ := own_res (w := w) (wr := w3) (R := w.heap.size + 2) HO6.out (fun b hb => ⟨(HTR.out b hb).1, Nat.lt_of_lt_of_le (HTR.out b hb).2 hs6⟩) (by omega) (by omega)
  exact ⟨.mk k n s l ks f, ⟨k4, n4, s4, A4, la4, lc4, F4, ks.length, fc4⟩, T4, 0, rfl, h2, h3, res_below HT6.out.bel (by omega), fun _ => ⟨rfl, rfl⟩, fun h => absurd HARG.out h⟩
end Go.Proofs.Ytalhkbcbfpjhgaa
