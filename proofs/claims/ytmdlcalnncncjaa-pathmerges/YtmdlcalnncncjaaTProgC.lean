/- tree.Count, walked. -/
import Derived.Test.YtmdlcalnncncjaaTProgR
set_option linter.unusedVariables false
set_option linter.unusedSimpArgs false
namespace Go.Proofs.Ytmdlcalnncncjaa
open Go.RowKit
/-- All is kept but block N. -/
structure Kp (N : Nat) (w w' : World) : Prop where
  bel : Below N w w'
  size : w.heap.size ≤ w'.heap.size
  block : ∀ k, k ≠ N → k < w.heap.size → w'.heap[k]? = w.heap[k]?
theorem Kp.refl (N : Nat) (w : World) : Kp N w w := ⟨Below.refl _ _, Nat.le_refl _, fun _ _ _ => rfl⟩
theorem Kp.trans {N : Nat} {a b c : World} (h : Kp N a b) (k : Kp N b c) : Kp N a c :=
  ⟨h.bel.trans k.bel, Nat.le_trans h.size k.size, fun j hj hl => (k.block j hj (Nat.lt_of_lt_of_le hl h.size)).trans (h.block j hj hl)⟩
theorem Kp.of_below {N : Nat} {w w' : World} (h : Below w.heap.size w w') (hN : N < w.heap.size) : Kp N w w' := ⟨h.mono (by omega), h.size, fun k _ hk => h.block k hk⟩
theorem Kp.setN {N o : Nat} {a w : World} (h : Kp N a w) (v : Value) : Kp N a (w.setCell ⟨N, o, none⟩ v) :=
  ⟨h.bel.setCell (Nat.le_refl _) v, by rw [World.size_setCell]; exact h.size, fun k hk hl => by rw [Below.heap_setCell _ _ _ _ hk]; exact h.block k hk hl⟩
theorem Kp.cell {N : Nat} {w w' : World} (h : Kp N w w') {p : Addr} (h1 : p.block ≠ N) (h2 : p.block < w.heap.size) : w'.cell? p = w.cell? p := World.cell?_of_block (w := w) (h.block p.block h1 h2)
theorem Kp.frozen {N : Nat} {w w' : World} (h : Kp N w w') {p : Addr} (h1 : p.block ≠ N) (h2 : p.block < w.heap.size) : w'.frozen? p = w.frozen? p := World.frozen?_of_block (w := w) (h.block p.block h1 h2)
theorem Lies.kp {N : Nat} {w w' : World} {S : Nat → Prop} {a : Va} {h : Hd} (H : Lies w S a h) (hk : Kp N w w') (hS : ∀ b, S b → b ≠ N) : Lies w' S a h :=
  Lies.keep (fun p h1 h2 => hk.cell (hS _ h1) h2) (fun _ h _ => h) a h H
theorem Bx.kp {N b : Nat} {w w' : World} {h : Hd} (H : Bx w b h) (hk : Kp N w w') (hb : b ≠ N) : Bx w' b h :=
  ⟨Nat.lt_of_lt_of_le H.1 hk.size, fun j c hc => (hk.cell (p := ⟨b, j, none⟩) hb H.1).trans (H.2 j c hc)⟩
theorem At5.kp {N : Nat} {w w' : World} {q : Addr} {u : Hd} (h : At5 w q u) (hk : Kp N w w') (h1 : q.block ≠ N) (h2 : q.block < w.heap.size) : At5 w' q u :=
  ⟨(hk.cell h1 h2).trans h.1, (hk.cell (p := ⟨q.block, _, none⟩) h1 h2).trans h.2.1, (hk.cell (p := ⟨q.block, _, none⟩) h1 h2).trans h.2.2.1, (hk.cell (p := ⟨q.block, _, none⟩) h1 h2).trans h.2.2.2.1, (hk.cell (p := ⟨q.block, _, none⟩) h1 h2).trans h.2.2.2.2⟩
theorem At6.kp {N : Nat} {w w' : World} {q : Addr} {key : ByteArray} {u : Hd} (h : At6 w q key u) (hk : Kp N w w') (h1 : q.block ≠ N) (h2 : q.block < w.heap.size) : At6 w' q key u :=
  ⟨(hk.cell h1 h2).trans h.1, (hk.cell (p := ⟨q.block, _, none⟩) h1 h2).trans h.2.1, (hk.cell (p := ⟨q.block, _, none⟩) h1 h2).trans h.2.2.1, (hk.cell (p := ⟨q.block, _, none⟩) h1 h2).trans h.2.2.2.1, (hk.cell (p := ⟨q.block, _, none⟩) h1 h2).trans h.2.2.2.2.1, (hk.cell (p := ⟨q.block, _, none⟩) h1 h2).trans h.2.2.2.2.2⟩
abbrev closC (N C : Nat) : Value := .func (.func 68) #[] #[.pointer (some ⟨N, 0, none⟩), .pointer (some ⟨C, 0, none⟩)]
/-- The counter, and the closure's variable. -/
structure CtAt (w : World) (N C : Nat) (m : Int) : Prop where
  cell : w.cell? ⟨N, 0, none⟩ = some (.int .i64 m)
  frz : w.frozen? ⟨N, 0, none⟩ = false
  clos : w.cell? ⟨C, 0, none⟩ = some (closC N C)
  ne : C ≠ N
theorem CtAt.alloc {w : World} {N C : Nat} {m : Int} (h : CtAt w N C m) (o : Obj) : CtAt (w.alloc o) N C m := by
  have hN : N < w.heap.size := World.block_lt_of_cell? w _ h.cell
  have hC : C < w.heap.size := World.block_lt_of_cell? w _ h.clos
  exact ⟨by rw [World.cell?_alloc_past _ _ _ hN]; exact h.cell, by rw [World.frozen?_alloc_past _ _ _ hN]; exact h.frz, by rw [World.cell?_alloc_past _ _ _ hC]; exact h.clos, h.ne⟩
theorem CtAt.set {w : World} {N C : Nat} {m : Int} (h : CtAt w N C m) (m' : Int) : CtAt (w.setCell ⟨N, 0, none⟩ (.int .i64 m')) N C m' := by
  refine ⟨?_, ?_, ?_, h.ne⟩
  · exact World.cell?_setCell_same _ _ _ h.cell
  · rw [World.frozen?_setCell]; exact h.frz
  · rw [World.cell?_setCell_other _ _ _ _ (fun e => h.ne (by injection e with e; first | exact e | exact e.symm))]; exact h.clos
theorem CtAt.kp {w w' : World} {N C : Nat} {m m' : Int} (h : CtAt w N C m) (hk : Kp N w w') (h1 : w'.cell? ⟨N, 0, none⟩ = some (.int .i64 m')) (h2 : w'.frozen? ⟨N, 0, none⟩ = false) : CtAt w' N C m' :=
  ⟨h1, h2, (hk.cell (p := ⟨C, 0, none⟩) h.ne (World.block_lt_of_cell? w _ h.clos)).trans h.clos, h.ne⟩
set_option maxHeartbeats 1000000 in
set_option maxRecDepth 100000 in
theorem count1_any : ∀ (a : Va) (S : Nat → Prop) (h : Hd) (w : World) (m : Int) (N C : Nat), Lies w S a h → (∀ b, S b → b ≠ N) → 0 ≤ m → m + a.cnt ≤ 100000 → CtAt w N C m →
    Calls Try.prog 68 #[h.val, .pointer (some ⟨N, 0, none⟩), .pointer (some ⟨C, 0, none⟩)] w fun e w' => e = .returned (.tuple #[]) ∧ CtAt w' N C (m + a.cnt) ∧ Kp N w w' := by
  intro a
  induction a using Va.ind with
  | h k nn s l ks f ihl ihf =>
  intro S h w m N C H hS hm0 hmc hct
  have hN : N < w.heap.size := World.block_lt_of_cell? w _ hct.cell
  have Hop := H.op
  simp only [Lies] at H
  obtain ⟨⟨e1, e2, e3, e4, e5, e6⟩, ⟨b1, b2, b3, b4, b5, b6, b7, b8⟩, -, -⟩ := H
  have hml : maxLen ≤ 9223372036854775807 := by decide
  have b5' : l.length ≤ 9223372036854775807 := Nat.le_trans b5 hml
  have b6' : f.length ≤ 9223372036854775807 := Nat.le_trans b6 hml
  clear hml
  have HC := Lib.hid (show (Va.mk k nn s l ks f).cnt = 1 + cntL l + cntL f by simp only [Va.cnt])
  have hmc' : m + 1 + cntL l + cntL f ≤ 100000 := by have := HC.out; omega
  clear hmc
  obtain ⟨hk, hnn, hs, A, la, lc, F, lf, fc⟩ := h
  simp only at e1 e2 e3 e4 e5 b7 b8
  subst e1 e2 e3 e4 e5
  unfold Hd.val
  simp only
  have hbx0 := Bx.start w ⟨hk, hnn, hs, A, l.length, lc, F, f.length, fc⟩ 25
  have hct0 := hct.alloc (Obj.cells #[.int .i64 hk, .int .i64 hnn, .string hs, .slice A l.length lc, .slice F f.length fc] 25)
  have hkp0 : Kp N w (w.alloc (Obj.cells #[.int .i64 hk, .int .i64 hnn, .string hs, .slice A l.length lc, .slice F f.length fc] 25)) := Kp.of_below ((Below.refl _ _).alloc (Nat.le_refl _) _) hN
  have hNw : w.heap.size ≠ N := by omega
  have HX0 := Lib.hid hbx0
  have HC0 := Lib.hid hct0
  have HK0 := Lib.hid hkp0
  clear hbx0 hct0 hkp0
  go_enter Try.func68, Try.ntmps68
  generalize hw0 : w.alloc (Obj.cells #[.int .i64 hk, .int .i64 hnn, .string hs, .slice A l.length lc, .slice F f.length fc] 25) = w0 at *
  have c0 := HC0.out.cell
  have f0 := HC0.out.frz
  have bA : ∀ v, (w0.setCell ⟨N, 0, none⟩ v).cell? ⟨w.heap.size, 3, none⟩ = some (.slice A l.length lc) := fun v => ((Kp.refl N w0).setN v).cell (p := ⟨w.heap.size, 3, none⟩) hNw HX0.out.1 |>.trans (HX0.out.2 3 _ rfl)
  go_wp2_with fail
  clear c0 f0 bA
  go_loopw [13] (fun iv wr => ∃ (i : Nat), iv = .int .i64 i ∧ i ≤ l.length ∧ CtAt wr N C (m + 1 + cntL (l.take i)) ∧ Kp N w wr ∧ Bx wr w.heap.size ⟨hk, hnn, hs, A, l.length, lc, F, f.length, fc⟩) (fun iv _ => l.length - (intOf iv).toNat)
  case atStart => exact ⟨0, rfl, Nat.zero_le _, by simpa [cntL] using HC0.out.set (m + 1), HK0.out.setN _, HX0.out.kp ((Kp.refl N w0).setN _) hNw⟩
  case round =>
    obtain ⟨i, rfl, hi, hct, hkp, hbx⟩ := hrel
    have HCT := Lib.hid hct
    have HKP := Lib.hid hkp
    have HBX := Lib.hid hbx
    have cF := hbx.2 4 _ rfl
    have hcc := hct.clos
    have hcw : C < wr.heap.size := World.block_lt_of_cell? wr _ hcc
    have hNr : N < wr.heap.size := World.block_lt_of_cell? wr _ hct.cell
    clear hct hkp hbx HC0 HK0 HX0
    by_cases hlt : i < l.length
    · obtain ⟨ad, u, rfl, hsa, hbl, hLu, hcell⟩ := Hop.L i _ (List.getElem?_eq_getElem hlt)
      obtain ⟨k0, k1, k2, k3, k4⟩ := hcell.kp HKP.out (by rw [adb]; exact hS _ hsa) hbl
      have hLu' := Lib.hid (hLu.kp HKP.out hS)
      have ihx := Lib.hid (ihl l[i] (List.getElem_mem hlt))
      have hst := cntL_take_step (List.getElem?_eq_getElem hlt)
      have hle := cntL_take_le l (i + 1)
      have HST := Lib.hid hst
      have HLE := Lib.hid hle
      clear hcell hLu ihl ihf hst hle
      go_wp2_with fail
      refine (ihx.out S u _ (m + 1 + cntL (l.take i)) N C (hLu'.out.below ((Below.refl wr.heap.size wr).alloc (Nat.le_refl _) _) (Nat.le_refl _)) hS (by omega) (by have := HST.out; have := HLE.out; omega) (HCT.out.alloc _)).mono ?_
      rintro e w2 ⟨rfl, hc2, hk2⟩
      have HK2 := Lib.hid ((Kp.of_below ((Below.refl wr.heap.size wr).alloc (Nat.le_refl _) _) hNr).trans hk2)
      have HC2 := Lib.hid hc2
      clear hc2 hk2
      go_wp2_with fail
      exact ⟨⟨i + 1, by go_num, by omega, by have h1 := HC2.out; have h2 := HST.out; rw [h2]; have e : (m + 1 + ((cntL (l.take i) + l[i].cnt : Nat) : Int)) = m + 1 + cntL (l.take i) + l[i].cnt := by omega
                                             rw [e]; exact h1, HKP.out.trans HK2.out, HBX.out.kp HK2.out hNw⟩, by simp [intOf]; omega⟩
    · have hcl : Hid (CtAt wr N C (m + 1 + cntL l)) := by have := HCT.out; rw [List.take_of_length_le (by omega)] at this; exact this
      clear ihl HCT
      go_wp2_with fail
      go_loopw [24] (fun iv wr => ∃ (i : Nat), iv = .int .i64 i ∧ i ≤ f.length ∧ CtAt wr N C (m + 1 + cntL l + cntL (f.take i)) ∧ Kp N w wr ∧ Bx wr w.heap.size ⟨hk, hnn, hs, A, l.length, lc, F, f.length, fc⟩) (fun iv _ => f.length - (intOf iv).toNat)
      case atStart => exact ⟨0, rfl, Nat.zero_le _, by simpa [cntL] using hcl.out, HKP.out, HBX.out⟩
      case round =>
        clear hcc hcw hNr hcl HKP HBX cF
        obtain ⟨i', rfl, hi', hct, hkp, hbx⟩ := hrel
        have HCT := Lib.hid hct
        have HKP := Lib.hid hkp
        have HBX := Lib.hid hbx
        have hcc := hct.clos
        have hcw : C < wr.heap.size := World.block_lt_of_cell? wr _ hcc
        have hNr : N < wr.heap.size := World.block_lt_of_cell? wr _ hct.cell
        clear hct hkp hbx
        by_cases hlt : i' < f.length
        · obtain ⟨ad, u, key, rfl, hsa, hbl, hkey, _, hLu, hcell⟩ := Hop.K i' _ (List.getElem?_eq_getElem hlt)
          obtain ⟨k0, k1, k2, k3, k4, k5⟩ := hcell.kp HKP.out (by rw [adb]; exact hS _ hsa) hbl
          have hLu' := Lib.hid (hLu.kp HKP.out hS)
          have ihx := Lib.hid (ihf f[i'] (List.getElem_mem hlt))
          have hst := cntL_take_step (List.getElem?_eq_getElem hlt)
          have hle := cntL_take_le f (i' + 1)
          have HST := Lib.hid hst
          have HLE := Lib.hid hle
          clear hcell hLu ihf hst hle hkey
          go_wp2_with fail
          refine (ihx.out S u _ (m + 1 + cntL l + cntL (f.take i')) N C (hLu'.out.below ((Below.refl wr.heap.size wr).alloc (Nat.le_refl _) _) (Nat.le_refl _)) hS (by omega) (by have := HST.out; have := HLE.out; omega) (HCT.out.alloc _)).mono ?_
          rintro e w2 ⟨rfl, hc2, hk2⟩
          have HK2 := Lib.hid ((Kp.of_below ((Below.refl wr.heap.size wr).alloc (Nat.le_refl _) _) hNr).trans hk2)
          have HC2 := Lib.hid hc2
          clear hc2 hk2
          go_wp2_with fail
          exact ⟨⟨i' + 1, by go_num, by omega, by have h1 := HC2.out; have h2 := HST.out; rw [h2]; have e : (m + 1 + cntL l + ((cntL (f.take i') + f[i'].cnt : Nat) : Int)) = m + 1 + cntL l + cntL (f.take i') + f[i'].cnt := by omega
                                                  rw [e]; exact h1, HKP.out.trans HK2.out, HBX.out.kp HK2.out hNw⟩, by simp [intOf]; omega⟩
        · have hcl : Hid (CtAt wr N C (m + (Va.mk hk hnn hs l ks f).cnt)) := by
            have h1 := HCT.out
            rw [List.take_of_length_le (by omega)] at h1
            have h2 := HC.out
            rw [h2]
            have e : (m + ((1 + cntL l + cntL f : Nat) : Int)) = m + 1 + cntL l + cntL f := by omega
            show CtAt wr N C _
            rw [e]
            exact h1
          clear HCT HC
          go_wp2_with fail
          go_end0
          exact ⟨rfl, hcl.out, HKP.out⟩
/-- What Count answers. -/
def CountR (a : Va) (w : World) (e : Ending) (w' : World) : Prop := (∃ n : Int, e = .returned (.int .i64 n) ∧ (a.R 12 → n = a.cnt) ∧ (¬ a.R 12 → n = 0)) ∧ Below w.heap.size w w'
theorem count_prog (a : Va) (S : Nat → Prop) (h : Hd) (w : World) : Lies w S a h → a.Sh → a.cnt ≤ 1000 → Calls Try.prog 23 #[h.val] w fun e w' => CountR a w e w' := by
  intro H hsh hcn
  have HH := Lib.hid H
  have HS := Lib.hid hsh
  clear H hsh
  have hpr := right_prog a S h (w.alloc (Obj.cells #[.int .i64 h.k, .int .i64 h.n, .string h.s, .slice h.A h.la h.lc, .slice h.F h.lf h.fc] 25)) (HH.out.below ((Below.refl w.heap.size w).alloc (Nat.le_refl _) _) (Nat.le_refl _)) HS.out hcn
  have HPR := Lib.hid hpr
  clear hpr
  unfold Hd.val at *
  go_enter Try.func23, Try.ntmps23
  go_wp2_with fail
  refine HPR.out.mono ?_
  rintro e w1 ⟨r, rfl, hr, hb1⟩
  obtain ⟨hb2, hsz1, hc1⟩ := after_alloc hb1
  have q0 := hc1 0 _ rfl
  have q1 := hc1 1 _ rfl
  have q2 := hc1 2 _ rfl
  have q3 := hc1 3 _ rfl
  have q4 := hc1 4 _ rfl
  simp only [List.getElem_toArray, List.getElem_cons_zero, List.getElem_cons_succ] at q0 q1 q2 q3 q4
  have HR := Lib.hid hr
  have HB2 := Lib.hid hb2
  clear hb1 hc1 hr hb2 HPR
  cases r
  · go_wp2_with fail
    go_ret
    exact ⟨⟨0, rfl, fun h => absurd (HR.out.2 h) (by decide), fun _ => rfl⟩, HB2.out⟩
  · have HT := Lib.hid (HR.out.1 rfl)
    clear HR
    go_wp2_with fail
    refine (count1_any a (fun b => b < w1.heap.size) h _ 0 w1.heap.size (w1.heap.size + 1) ?_ (fun b hb => Nat.ne_of_lt hb) (Int.le_refl _) (by omega) ?_).mono ?_
    · have h1 := HH.out.below HB2.out (Nat.le_refl _)
      exact Lies.keep (fun p _ hp => by rw [World.cell?_alloc_lt _ _ _ (by simp; omega), World.cell?_alloc_lt _ _ _ hp]) (fun b _ hb => hb) a h h1
    · exact ⟨by rw [World.cell?_alloc_past _ _ _ (by simp), World.cell?_alloc_new]; rfl, by rw [World.frozen?_alloc_past _ _ _ (by simp), World.frozen?_alloc_new], by rw [World.cell?_alloc_at _ _ _ _ (by simp)]; rfl, by omega⟩
    rintro e w2 ⟨rfl, hct, hkp⟩
    have hcl := hct.cell
    have HKP := Lib.hid hkp.bel
    clear hct hkp
    generalize hz : (0 + (a.cnt : Int)) = z at hcl
    have HZ := Lib.hid hz
    clear hz
    go_wp2_with fail
    go_ret
    refine ⟨⟨z, rfl, fun _ => by have := HZ.out; omega, fun h => absurd HT.out h⟩, HB2.out.trans ((((Below.refl w1.heap.size w1).alloc (Nat.le_refl _) _).alloc (by simp) _).trans HKP.out |>.mono HB2.out.size)⟩
end Go.Proofs.Ytmdlcalnncncjaa
