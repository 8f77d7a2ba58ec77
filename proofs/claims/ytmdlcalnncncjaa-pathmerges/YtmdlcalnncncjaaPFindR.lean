/- The reference's Find. -/
import Derived.Test.YtmdlcalnncncjaaPFind
set_option linter.unusedVariables false
set_option linter.unusedSimpArgs false
namespace Go.Proofs.Ytmdlcalnncncjaa
open Go.RowKit
/-- The reference's loop. -/
structure LoopFi (w : World) (a : Va) (p : List St) (i : Nat) (a' : Va) (h' : Hd) (wr : World) : Prop where
  bel : Below w.heap.size w wr
  size : w.heap.size + 2 ≤ wr.heap.size
  box : wr.rowIs w.heap.size 25 5 (hdAt h')
  res : wr.rowIs (w.heap.size + 1) 25 5 zeroRes
  lies : Lies wr (fun b => b < w.heap.size) a' h'
  go : goV a p = goV a' (p.drop i)
  cnt : a'.cnt ≤ 1000
theorem LoopFi.below {w wr w' : World} {a : Va} {p : List St} {i : Nat} {a' : Va} {h' : Hd} (H : LoopFi w a p i a' h' wr) (hb : Below wr.heap.size wr w') : LoopFi w a p i a' h' w' :=
  ⟨H.bel.trans (hb.mono H.bel.size), Nat.le_trans H.size hb.size, rowIs_below H.box hb (by have := H.size; omega), rowIs_below H.res hb (by have := H.size; omega), H.lies.below hb (Nat.le_refl _), H.go, H.cnt⟩
theorem LoopFi.step {w wr : World} {a : Va} {p : List St} {i : Nat} {a' x : Va} {h' u : Hd} {s : St} (H : LoopFi w a p i a' h' wr) (hs : p[i]? = some s) (hx : subV a' s = some x) (hu : Lies wr (fun b => b < w.heap.size) x u) :
    LoopFi w a p (i + 1) x u (((((wr.setCell ⟨w.heap.size, 0, none⟩ (.int .i64 u.k)).setCell ⟨w.heap.size, 1, none⟩ (.int .i64 u.n)).setCell ⟨w.heap.size, 2, none⟩ (.string u.s)).setCell ⟨w.heap.size, 3, none⟩ (.slice u.A u.la u.lc)).setCell ⟨w.heap.size, 4, none⟩ (.slice u.F u.lf u.fc)) := by
  refine ⟨res_below H.bel (Nat.le_refl _), by simp; exact H.size, ?_, H.res.of_block (res_set (w := w) _ (by omega)), ?_, ?_, ?_⟩
  · refine (((((H.box.set 0 _).set 1 _).set 2 _).set 3 _).set 4 _).congr (fun j hj => ?_)
    match j, hj with
    | 0, _ => rfl
    | 1, _ => rfl
    | 2, _ => rfl
    | 3, _ => rfl
    | 4, _ => rfl
  · exact Lies.keep (fun q hq _ => World.cell?_of_block (res_set (w := w) _ (fun e => by rw [e] at hq; exact Nat.lt_irrefl _ hq))) (fun _ h _ => h) _ _ hu
  · have hd : p.drop i = s :: p.drop (i + 1) := by
      have hl := (List.getElem?_eq_some_iff.1 hs).1
      rw [List.drop_eq_getElem_cons hl]
      congr 1
      exact (List.getElem?_eq_some_iff.1 hs).2
    rw [H.go, hd]
    simp only [goV]
    rw [hx]
  · obtain ⟨k, n, t, l, ks, f⟩ := a'
    exact Nat.le_trans (cnt_sub (subV_mem hx)) H.cnt
theorem LoopFi.stop {w wr : World} {a : Va} {p : List St} {i : Nat} {a' : Va} {h' : Hd} {s : St} (H : LoopFi w a p i a' h' wr) (hs : p[i]? = some s) (hx : subV a' s = none) : goV a p = none := by
  have hd : p.drop i = s :: p.drop (i + 1) := by
    have hl := (List.getElem?_eq_some_iff.1 hs).1
    rw [List.drop_eq_getElem_cons hl]
    congr 1
    exact (List.getElem?_eq_some_iff.1 hs).2
  rw [H.go, hd]
  simp only [goV]
  rw [hx]
set_option maxHeartbeats 4000000 in
set_option maxRecDepth 100000 in
theorem find_ref (a : Va) (S : Nat → Prop) (h : Hd) (w : World) (A : Option Addr) (m c : Nat) (p : List St) (H : Lies w S a h) (hcn : a.cnt ≤ 1000) (hA : PathAt w A p) (hm : m = p.length) (hp : m ≤ 1000) (hR : ∀ s ∈ p, StR s) :
    Calls Try.prog 50 #[h.val, .slice A m c] w fun e w' => FolR (fun _ => True) a p w e w' := by
  have HS := Lib.hid (show Lies w (fun b => b < w.heap.size) a h from Lies.keep (fun _ _ _ => rfl) (fun b _ hb => hb) _ _ H)
  have HA := Lib.hid hA
  have HM := Lib.hid hm
  have HSR := Lib.hid hR
  have hb2 := two_allocs w (Obj.cells #[.int .i64 h.k, .int .i64 h.n, .string h.s, .slice h.A h.la h.lc, .slice h.F h.lf h.fc] 25) (Obj.cells #[.int .i64 0, .int .i64 0, .string { data := #[] }, .slice none 0 0, .slice none 0 0] 25)
  have hbox : ((w.alloc (Obj.cells #[.int .i64 h.k, .int .i64 h.n, .string h.s, .slice h.A h.la h.lc, .slice h.F h.lf h.fc] 25)).alloc (Obj.cells #[.int .i64 0, .int .i64 0, .string { data := #[] }, .slice none 0 0, .slice none 0 0] 25)).rowIs w.heap.size 25 5 (hdAt h) := by
    refine hdAt_row ?_
    rw [Below.heap_alloc _ _ _ (by simp)]
    exact heap_alloc_new _ _
  have hres : ((w.alloc (Obj.cells #[.int .i64 h.k, .int .i64 h.n, .string h.s, .slice h.A h.la h.lc, .slice h.F h.lf h.fc] 25)).alloc (Obj.cells #[.int .i64 0, .int .i64 0, .string { data := #[] }, .slice none 0 0, .slice none 0 0] 25)).rowIs (w.heap.size + 1) 25 5 zeroRes := by
    refine hdAt_row (h := zeroHd) ?_
    have h9 := heap_alloc_new (w.alloc (Obj.cells #[.int .i64 h.k, .int .i64 h.n, .string h.s, .slice h.A h.la h.lc, .slice h.F h.lf h.fc] 25)) (Obj.cells #[.int .i64 0, .int .i64 0, .string { data := #[] }, .slice none 0 0, .slice none 0 0] 25)
    rwa [World.size_alloc] at h9
  have hL0 : LoopFi w a p 0 a h ((w.alloc (Obj.cells #[.int .i64 h.k, .int .i64 h.n, .string h.s, .slice h.A h.la h.lc, .slice h.F h.lf h.fc] 25)).alloc (Obj.cells #[.int .i64 0, .int .i64 0, .string { data := #[] }, .slice none 0 0, .slice none 0 0] 25)) := ⟨hb2, by simp, hbox, hres, HS.out.below hb2 (Nat.le_refl _), rfl, hcn⟩
  clear H hcn hA hm hR hb2 hbox hres HS
  unfold Hd.val at *
  go_enter Try.func50, Try.ntmps50
  go_wp2_with fail
  go_loopw [6] (fun iv wr => ∃ (i : Nat) (a' : Va) (h' : Hd), iv = .int .i64 i ∧ i ≤ m ∧ LoopFi w a p i a' h' wr) (fun iv _ => m - (intOf iv).toNat)
  case atStart => exact ⟨0, a, h, rfl, Nat.zero_le _, hL0⟩
  case round =>
    clear hL0
    obtain ⟨i, a', h', rfl, hi, hL⟩ := hrel
    have HL := Lib.hid hL
    have hszr := hL.size
    have b0 := hL.box.cell (show 0 < 5 by decide)
    have b1 := hL.box.cell (show 1 < 5 by decide)
    have b2 := hL.box.cell (show 2 < 5 by decide)
    have b3 := hL.box.cell (show 3 < 5 by decide)
    have b4 := hL.box.cell (show 4 < 5 by decide)
    simp only [hdAt, Hd.cells, List.getD_cons_succ, List.getD_cons_zero] at b0 b1 b2 b3 b4
    clear hL
    by_cases hlt : i < m
    · obtain ⟨s, hs⟩ : ∃ s, p[i]? = some s := ⟨p[i]'(by have := HM.out; omega), List.getElem?_eq_getElem (by have := HM.out; omega)⟩
      obtain ⟨ad, e, hbl, hcell, hok⟩ := (HA.out.below HL.out.bel (Nat.le_refl _)) i s hs
      subst e
      obtain ⟨q0, q1, q2⟩ := hcell
      have HPS := Lib.hid hs
      have HST := Lib.hid (HSR.out s (List.mem_of_getElem? hs))
      have hNr : w.heap.size < wr.heap.size := by omega
      have Q0 : ∀ x : BlwBy wr, x.now.cell? (ad.add (i * 3)) = some (.string s.k) := fun x => x.cellA hbl q0
      have Q1 : ∀ x : BlwBy wr, x.now.cell? ⟨(ad.add (i * 3)).block, (ad.add (i * 3)).off + 1, none⟩ = some (.int .i64 s.a) := fun x => x.cellA (a := ⟨(ad.add (i * 3)).block, (ad.add (i * 3)).off + 1, none⟩) hbl q1
      have Q2 : ∀ x : BlwBy wr, x.now.cell? ⟨(ad.add (i * 3)).block, (ad.add (i * 3)).off + 2, none⟩ = some (.bool s.i) := fun x => x.cellA (a := ⟨(ad.add (i * 3)).block, (ad.add (i * 3)).off + 2, none⟩) hbl q2
      have B0 : ∀ x : BlwBy wr, x.now.cell? ⟨w.heap.size, 0, none⟩ = some (.int .i64 h'.k) := fun x => x.cell hNr b0
      have B1 : ∀ x : BlwBy wr, x.now.cell? ⟨w.heap.size, 1, none⟩ = some (.int .i64 h'.n) := fun x => x.cell hNr b1
      have B2 : ∀ x : BlwBy wr, x.now.cell? ⟨w.heap.size, 2, none⟩ = some (.string h'.s) := fun x => x.cell hNr b2
      have B3 : ∀ x : BlwBy wr, x.now.cell? ⟨w.heap.size, 3, none⟩ = some (.slice h'.A h'.la h'.lc) := fun x => x.cell hNr b3
      have B4 : ∀ x : BlwBy wr, x.now.cell? ⟨w.heap.size, 4, none⟩ = some (.slice h'.F h'.lf h'.fc) := fun x => x.cell hNr b4
      have KM : Hid (∀ x : BlwBy wr, Calls Try.prog 87 #[.agg #[.int .i64 h'.k, .int .i64 h'.n, .string h'.s, .slice h'.A h'.la h'.lc, .slice h'.F h'.lf h'.fc], .agg #[.string s.k, .int .i64 s.a, .bool s.i]] x.now fun e w'' => e = .returned (.int .i64 (mI (subI a' s))) ∧ ∃ q : BlwBy wr, w'' = q.now) := Lib.hid (fun x => Calls.below_of (next_ref a' _ h' x.now s (HL.out.lies.below x.bel (Nat.le_refl _)) HST.out HL.out.cnt))
      clear hs hok
      go_wp2_with fail
      refine wp_quiet_below (by kernel_rfl) (by kernel_rfl) ?_
      repeat (quiet_step (first | (go_at_call 87; exact KM.out _)))
      refine wpQuiet_nil ?_
      intro w9 hw'
      have hb9 : Below wr.heap.size wr w9 := by obtain ⟨⟨wx, hbx⟩, hw''⟩ := hw'; rw [hw'']; exact hbx
      clear hw'
      have HL9 := Lib.hid (HL.out.below hb9)
      have hs9 := hb9.size
      have r2 := (hb9.cell (p := ⟨(ad.add (i * 3)).block, (ad.add (i * 3)).off + 2, none⟩) hbl).trans q2
      clear Q0 Q1 Q2 B0 B1 B2 B3 B4 KM b0 b1 b2 b3 b4 q0 q1 q2 hb9 HL
      cases hsi : subI a' s with
      | none =>
        have HNO : Hid (goV a p = none) := Lib.hid (HL9.out.stop HPS.out (by obtain ⟨k, n, t, l, ks, f⟩ := a'; simp only [subV]; rw [hsi]))
        have z0 := HL9.out.res.cell (show 0 < 5 by decide)
        have z1 := HL9.out.res.cell (show 1 < 5 by decide)
        have z2 := HL9.out.res.cell (show 2 < 5 by decide)
        have z3 := HL9.out.res.cell (show 3 < 5 by decide)
        have z4 := HL9.out.res.cell (show 4 < 5 by decide)
        have g0 := HL9.out.res.frozen 0
        have g1 := HL9.out.res.frozen 1
        have g2 := HL9.out.res.frozen 2
        have g3 := HL9.out.res.frozen 3
        have g4 := HL9.out.res.frozen 4
        simp only [hdAt, Hd.cells, List.getD_cons_succ, List.getD_cons_zero] at z0 z1 z2 z3 z4
        simp only [mI]
        clear hsi
        go_wp2_with fail
        refine bodyPost_ret (v := .tuple #[.agg #[.int .i64 0, .int .i64 0, .string ⟨#[]⟩, .slice none 0 0, .slice none 0 0], .bool false]) (by simp [results, Try.results50, go_sem, z0, z1, z2, z3, z4]; try rfl) rfl ?_
        exact FolR.no HNO.out (res_below HL9.out.bel (Nat.le_succ _))
      | some j =>
        obtain ⟨k, n, t, l, ks, f⟩ := a'
        have hop := HL9.out.lies.op
        have hLs := HL9.out.lies
        simp only [Lies] at hLs
        obtain ⟨⟨e1, e2, e3, e4, e5, e6⟩, -, -⟩ := hLs
        have HLT := Lib.hid (subI_lt e6 HST.out hsi)
        have c3 := HL9.out.box.cell (show 3 < 5 by decide)
        have c4 := HL9.out.box.cell (show 4 < 5 by decide)
        have c0 := HL9.out.box.cell (show 0 < 5 by decide)
        have c1 := HL9.out.box.cell (show 1 < 5 by decide)
        have c2 := HL9.out.box.cell (show 2 < 5 by decide)
        have f0 := HL9.out.box.frozen 0
        have f1 := HL9.out.box.frozen 1
        have f2 := HL9.out.box.frozen 2
        have f3 := HL9.out.box.frozen 3
        have f4 := HL9.out.box.frozen 4
        simp only [hdAt, Hd.cells, List.getD_cons_succ, List.getD_cons_zero] at c0 c1 c2 c3 c4
        rw [e4] at c3
        rw [e5] at c4
        have hll : l.length ≤ 1000 := by have h1 := len_le_cntL l; have h2 := HL9.out.cnt; simp only [Va.cnt] at h2; omega
        have hfl : f.length ≤ 1000 := by have h1 := len_le_cntL f; have h2 := HL9.out.cnt; simp only [Va.cnt] at h2; omega
        clear e1 e2 e3 e4 e5 e6
        simp only [mI]
        have hcj : (0 : Int) ≤ (j : Int) := by omega
        cases hst : s.i
        · obtain ⟨hil, h5⟩ := HLT.out.2 hst
          obtain ⟨x, hx⟩ : ∃ x, f[j]? = some x := ⟨f[j], List.getElem?_eq_getElem hil⟩
          obtain ⟨ad2, u, key, hA2, _, hab, _, _, hLu, hat2⟩ := hop.K j x hx
          rw [hA2] at c4
          obtain ⟨kk, k0, k1, k2, k3, k4⟩ := hat2
          have HSV : Hid (subV (.mk k n t l ks f) s = some x) := Lib.hid (by simp only [subV]; rw [hsi]; simp only; rw [if_neg (by rw [hst]; decide), hx])
          have HLu := Lib.hid hLu
          rw [hst] at r2
          have hcjl : (j : Int) < (f.length : Int) := by omega
          clear hop hx hLu hsi hst HLT hA2
          go_wp2_with fail
          exact ⟨⟨i + 1, x, u, by go_num, by omega, HL9.out.step HPS.out HSV.out HLu.out⟩, by simp [intOf]; omega⟩
        · obtain ⟨hil, h5⟩ := HLT.out.1 hst
          obtain ⟨x, hx⟩ : ∃ x, l[j]? = some x := ⟨l[j], List.getElem?_eq_getElem hil⟩
          obtain ⟨ad2, u, hA2, _, hab, hLu, hat2⟩ := hop.L j x hx
          rw [hA2] at c3
          obtain ⟨k0, k1, k2, k3, k4⟩ := hat2
          have HSV : Hid (subV (.mk k n t l ks f) s = some x) := Lib.hid (by simp only [subV]; rw [hsi]; simp only; rw [if_pos hst, hx])
          have HLu := Lib.hid hLu
          rw [hst] at r2
          have hcjl : (j : Int) < (l.length : Int) := by omega
          clear hop hx hLu hsi hst HLT hA2
          go_wp2_with fail
          exact ⟨⟨i + 1, x, u, by go_num, by omega, HL9.out.step HPS.out HSV.out HLu.out⟩, by simp [intOf]; omega⟩
    · obtain rfl : i = m := by omega
      have HGO : Hid (goV a p = some a') := Lib.hid (by rw [HL.out.go, List.drop_of_length_le (by have := HM.out; omega)]; rfl)
      have z0 := HL.out.res.cell (show 0 < 5 by decide)
      have z1 := HL.out.res.cell (show 1 < 5 by decide)
      have z2 := HL.out.res.cell (show 2 < 5 by decide)
      have z3 := HL.out.res.cell (show 3 < 5 by decide)
      have z4 := HL.out.res.cell (show 4 < 5 by decide)
      have g0 := HL.out.res.frozen 0
      have g1 := HL.out.res.frozen 1
      have g2 := HL.out.res.frozen 2
      have g3 := HL.out.res.frozen 3
      have g4 := HL.out.res.frozen 4
      simp only [hdAt, Hd.cells, List.getD_cons_succ, List.getD_cons_zero] at z0 z1 z2 z3 z4
      go_wp2_with fail
      refine bodyPost_ret (v := .tuple #[.agg #[.int .i64 h'.k, .int .i64 h'.n, .string h'.s, .slice h'.A h'.la h'.lc, .slice h'.F h'.lf h'.fc], .bool true]) (by simp [results, Try.results50, go_sem, z0, z1, z2, z3, z4]; try rfl) rfl ?_
      refine ⟨a', h', true, rfl, res_below HL.out.bel (Nat.le_succ _), ?_, .inl ⟨rfl, HGO.out⟩⟩
      exact Lies.keep (fun q hq _ => World.cell?_of_block (res_set (w := w) _ (fun e => by rw [e] at hq; exact absurd hq (by omega)))) (fun _ _ _ => trivial) _ _ HL.out.lies
end Go.Proofs.Ytmdlcalnncncjaa
