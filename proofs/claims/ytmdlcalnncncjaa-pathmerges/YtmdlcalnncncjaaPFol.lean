/- path.member and path.follow. -/
import Derived.Test.YtmdlcalnncncjaaPGo
import Derived.Deep.RegionHeld3
set_option linter.unusedVariables false
set_option linter.unusedSimpArgs false
namespace Go.Proofs.Ytmdlcalnncncjaa
open Go.RowKit
theorem At3.start (w : World) (s : St) (t : TypeId) {N : Nat} (hN : N = w.heap.size) : At3 (w.alloc (Obj.cells #[.string s.k, .int .i64 s.a, .bool s.i] t)) ⟨N, 0, none⟩ s := by
  subst hN
  refine ⟨?_, ?_, ?_⟩
  · exact World.cell?_alloc_new ..
  · exact World.cell?_alloc_new ..
  · exact World.cell?_alloc_new ..
set_option maxHeartbeats 1000000 in
set_option maxRecDepth 100000 in
theorem member_any (a : Va) (S : Nat → Prop) (h : Hd) (w : World) (s : St) (H : Lies w S a h) (hs : StR s) (hcn : a.cnt ≤ 1000) :
    Calls Try.prog 124 #[h.val, .agg #[.string s.k, .int .i64 s.a, .bool s.i]] w fun e w' => e = .returned (.int .i64 (mI (subI a s))) ∧ Below w.heap.size w w' := by
  obtain ⟨k, n, t, l, ks, f⟩ := a
  have HOP := Lib.hid H.op
  simp only [Lies] at H
  obtain ⟨⟨e1, e2, e3, e4, e5, e6⟩, ⟨hkb, _⟩, -⟩ := H
  obtain ⟨hk, hnn, hss, A, la, lc, F, lf, fc⟩ := h
  simp only at e1 e2 e3 e4 e5 e6
  subst e1 e4
  have hlf : lf = ks.length := by omega
  subst hlf
  have hll : l.length ≤ 1000 := by have := len_le_cntL l; simp only [Va.cnt] at hcn; omega
  have hkl : ks.length ≤ 1000 := by have := len_le_cntL f; simp only [Va.cnt] at hcn; omega
  have HE6 := Lib.hid e6
  obtain ⟨sk, sa, si⟩ := s
  have hb2 := two_allocs w (Obj.cells #[.int .i64 hk, .int .i64 hnn, .string hss, .slice A l.length lc, .slice F ks.length fc] 25) (Obj.cells #[.string sk, .int .i64 sa, .bool si] 72)
  have HB2 := Lib.hid hb2
  clear hcn e2 e3 e5 e6
  unfold Hd.val at *
  simp only [subI]
  rcases hs with ⟨e, hk0, h0, hmax⟩ | ⟨e, h0, hr⟩
  · simp only at e hk0 h0 hmax
    subst e
    clear hb2
    rw [if_pos rfl]
    by_cases h4 : hk = 4
    · subst h4
      by_cases hlt : sa < (l.length : Int)
      · rw [if_pos ⟨rfl, hlt⟩]
        have hmi : mI (some sa.toNat) = sa := by show ((sa.toNat : Nat) : Int) = sa; omega
        rw [hmi]
        clear hmi
        go_enter Try.func124, Try.ntmps124
        go_wp2_with fail
        go_ret
        exact ⟨rfl, HB2.out⟩
      · rw [if_neg (fun q => hlt q.2)]
        simp only [mI]
        go_enter Try.func124, Try.ntmps124
        go_wp2_with fail
        go_ret
        exact ⟨rfl, HB2.out⟩
    · rw [if_neg (fun q => h4 q.1)]
      have h4' := bq_no h4
      simp only [mI]
      clear h4
      go_enter Try.func124, Try.ntmps124
      go_wp2_with fail
      go_ret
      exact ⟨rfl, HB2.out⟩
  · simp only at e h0 hr
    subst e h0
    rw [if_neg (by decide)]
    by_cases h5 : hk = 5
    · subst h5
      rw [if_pos rfl]
      have K := Lib.hid (pindex_any ks ⟨sk, 0, false⟩ F fc (w.heap.size + 1) _ hkl ((HOP.out.keys HE6.out).below hb2 (Nat.le_refl _)) rfl rfl (At3.start _ ⟨sk, 0, false⟩ 72 (by simp)))
      clear hb2
      generalize hmi : mI (kIdx ks sk) = mm
      have HMI := Lib.hid hmi
      clear hmi
      go_enter Try.func124, Try.ntmps124
      go_wp2_with fail
      refine K.out.mono ?_
      rintro e w1 ⟨m, rfl, hp, hb1⟩
      obtain rfl : m = mm := hp.kIdx.trans HMI.out
      have HB1 := Lib.hid (HB2.out.trans (hb1.mono HB2.out.size))
      clear hp hb1 K
      go_wp2_with fail
      go_ret
      exact ⟨rfl, HB1.out⟩
    · rw [if_neg h5]
      have h5' := bq_no h5
      simp only [mI]
      clear h5 hb2
      go_enter Try.func124, Try.ntmps124
      go_wp2_with fail
      go_ret
      exact ⟨rfl, HB2.out⟩
/-- What follow answers. -/
def FolR (S : Nat → Prop) (a : Va) (p : List St) (w : World) (e : Ending) (w' : World) : Prop := ∃ (b : Va) (h' : Hd) (ok : Bool), e = .returned (.tuple #[.agg #[.int .i64 h'.k, .int .i64 h'.n, .string h'.s, .slice h'.A h'.la h'.lc, .slice h'.F h'.lf h'.fc], .bool ok]) ∧ Below w.heap.size w w' ∧ Lies w' S b h' ∧
  ((ok = true ∧ goV a p = some b) ∨ (ok = false ∧ goV a p = none ∧ b = zeroVa ∧ h' = zeroHd))
theorem FolR.no {S : Nat → Prop} {a : Va} {p : List St} {w w' : World} (h : goV a p = none) (hb : Below w.heap.size w w') : FolR S a p w (.returned (.tuple #[.agg #[.int .i64 0, .int .i64 0, .string ⟨#[]⟩, .slice none 0 0, .slice none 0 0], .bool false])) w' :=
  ⟨zeroVa, zeroHd, false, rfl, hb, lies_zero _ _, .inr ⟨rfl, h, rfl, rfl⟩⟩
theorem PathAt.tail {w : World} {ad : Addr} {s : St} {p : List St} (h : PathAt w (Option.some ad) (s :: p)) : PathAt w (Option.some (ad.add 3)) p := by
  intro i t ht
  obtain ⟨ad', e, h1, h2, h3⟩ := h (i + 1) t (by simpa using ht)
  cases e
  have e2 : (ad.add 3).add (i * 3) = ad.add ((i + 1) * 3) := by rw [ada]; congr 1; omega
  exact ⟨_, rfl, by rw [e2]; exact h1, by rw [e2]; exact h2, h3⟩
theorem cnt_sub {k n : Int} {t : ByteArray} {l : List Va} {ks : List ByteArray} {f : List Va} {x : Va} (h : x ∈ l ∨ x ∈ f) : x.cnt ≤ (Va.mk k n t l ks f).cnt := by
  simp only [Va.cnt]
  rcases h with h | h
  · have := cntL_mem h; omega
  · have := cntL_mem h; omega
/-- What the drawn statements load: a slice of the value's box, and an element. -/
abbrev SF6 (N o : Nat) (v : Value) (q : Addr) (a1 a2 a3 a4 : Nat) (u : Hd) (w : World) : Prop := w.cell? ⟨N, o, none⟩ = some v ∧ w.cell? q = some (.int .i64 u.k) ∧ w.cell? ⟨q.block, a1, none⟩ = some (.int .i64 u.n) ∧ w.cell? ⟨q.block, a2, none⟩ = some (.string u.s) ∧ w.cell? ⟨q.block, a3, none⟩ = some (.slice u.A u.la u.lc) ∧ w.cell? ⟨q.block, a4, none⟩ = some (.slice u.F u.lf u.fc)
theorem SF6.blk {N o : Nat} {v : Value} {q : Addr} {a1 a2 a3 a4 : Nat} {u : Hd} {w w' : World} (h : SF6 N o v q a1 a2 a3 a4 u w) (hN : w'.heap[N]? = w.heap[N]?) (hq : w'.heap[q.block]? = w.heap[q.block]?) : SF6 N o v q a1 a2 a3 a4 u w' :=
  ⟨(World.cell?_of_block (a := ⟨N, o, none⟩) hN).trans h.1, (World.cell?_of_block (a := q) hq).trans h.2.1, (World.cell?_of_block (a := ⟨q.block, a1, none⟩) hq).trans h.2.2.1, (World.cell?_of_block (a := ⟨q.block, a2, none⟩) hq).trans h.2.2.2.1, (World.cell?_of_block (a := ⟨q.block, a3, none⟩) hq).trans h.2.2.2.2.1, (World.cell?_of_block (a := ⟨q.block, a4, none⟩) hq).trans h.2.2.2.2.2⟩
theorem FolR.res {S : Nat → Prop} {a x : Va} {p q : List St} {w w5 : World} {b : Va} {h' : Hd} {ok : Bool} {R : Nat} (hg : goV a q = goV x p) (hR : w.heap.size ≤ R) (hRS : ¬ S R) (hb : Below w.heap.size w w5) (hl : Lies w5 S b h') (ho : (ok = true ∧ goV x p = some b) ∨ (ok = false ∧ goV x p = none ∧ b = zeroVa ∧ h' = zeroHd)) :
    FolR S a q w (.returned (.tuple #[.agg #[.int .i64 h'.k, .int .i64 h'.n, .string h'.s, .slice h'.A h'.la h'.lc, .slice h'.F h'.lf h'.fc], .bool ok])) (((((w5.setCell ⟨R, 0, none⟩ (.int .i64 h'.k)).setCell ⟨R, 1, none⟩ (.int .i64 h'.n)).setCell ⟨R, 2, none⟩ (.string h'.s)).setCell ⟨R, 3, none⟩ (.slice h'.A h'.la h'.lc)).setCell ⟨R, 4, none⟩ (.slice h'.F h'.lf h'.fc)) :=
  ⟨b, h', ok, rfl, res_below hb hR, Lies.keep (fun p hp _ => World.cell?_of_block (res_set (w := w) _ (fun e => hRS (by rw [← e]; exact hp)))) (fun _ h _ => h) _ _ hl, by rw [hg]; exact ho⟩
set_option maxHeartbeats 4000000 in
set_option maxRecDepth 100000 in
theorem follow_any (S : Nat → Prop) (p : List St) : ∀ (a : Va) (h : Hd) (w : World) (A : Option Addr) (m c : Nat), (∀ b, S b → b < w.heap.size) → Lies w S a h → PathAt w A p → (∀ s ∈ p, StR s) → m = p.length → m ≤ c → m ≤ 1000 → a.cnt ≤ 1000 →
    Calls Try.prog 111 #[h.val, .slice A m c] w fun e w' => FolR S a p w e w' := by
  induction p with
  | nil =>
    intro a h w A m c hSb H hA hR hm hc hp hcn
    obtain rfl : m = 0 := hm
    have HH := Lib.hid H
    have HB2 := Lib.hid (two_allocs w (Obj.cells #[.int .i64 h.k, .int .i64 h.n, .string h.s, .slice h.A h.la h.lc, .slice h.F h.lf h.fc] 25) (Obj.cells #[.int .i64 h.k, .int .i64 h.n, .string h.s, .slice h.A h.la h.lc, .slice h.F h.lf h.fc] 25))
    clear H hA hR hc hp hcn
    unfold Hd.val at *
    go_enter Try.func111, Try.ntmps111
    go_wp2_with fail
    refine bodyPost_ret (v := .tuple #[.agg #[.int .i64 h.k, .int .i64 h.n, .string h.s, .slice h.A h.la h.lc, .slice h.F h.lf h.fc], .bool true]) (by simp [results, Try.results111, go_sem]; try rfl) rfl ?_
    exact ⟨a, h, true, rfl, HB2.out, HH.out.below HB2.out (Nat.le_refl _), .inl ⟨rfl, rfl⟩⟩
  | cons s p ih =>
    intro a h w A m c hSb H hA hR hm hc hp hcn
    obtain ⟨ad, rfl, hbl, hat, hok⟩ := hA 0 s rfl
    have e0 : ad.add (0 * 3) = ad := by simp [Addr.add]
    rw [e0] at hat hbl
    have HSR := Lib.hid (hR s (by simp))
    have HTL := Lib.hid hA.tail
    have hm1 : m = p.length + 1 := by simpa using hm
    have IH := Lib.hid (fun (x : Va) (u : Hd) (W : World) (A' : Option Addr) (m' c' : Nat) (h0 : ∀ b, S b → b < W.heap.size) (h1 : Lies W S x u) (h2 : PathAt W A' p) (h3 : m' = p.length) (h5 : m' ≤ c') (h4 : x.cnt ≤ 1000) => ih x u W A' m' c' h0 h1 h2 (fun t ht => hR t (by simp [ht])) h3 h5 (by omega) h4)
    have HPL := Lib.hid hm1
    have HSb := Lib.hid hSb
    have hm0 : 1 ≤ m := by omega
    have hm0i : (1 : Int) ≤ (m : Int) := by omega
    have hm0j : (0 : Int) < (m : Int) := by omega
    have hm0k : 0 < m := by omega
    have hm00 : ((m : Int) == 0) = false := by simp; omega
    obtain ⟨k, n, t, l, ks, f⟩ := a
    have HH := Lib.hid H
    have HOP := Lib.hid H.op
    simp only [Lies] at H
    obtain ⟨⟨e1, e2, e3, e4, e5, e6⟩, -, -⟩ := H
    obtain ⟨hk, hnn, hss, HA, la, lc, F, lf, fc⟩ := h
    simp only at e1 e4 e5
    subst e1 e4
    have hlf : lf = f.length := e5
    subst hlf
    have HE6 := Lib.hid e6
    have HCN := Lib.hid hcn
    have hll : l.length ≤ 1000 := by have := len_le_cntL l; simp only [Va.cnt] at hcn; omega
    have hfl : f.length ≤ 1000 := by have := len_le_cntL f; simp only [Va.cnt] at hcn; omega
    have hgo : goV (.mk hk n t l ks f) (s :: p) = match subV (.mk hk n t l ks f) s with | some x => goV x p | none => none := rfl
    have hsv : subV (.mk hk n t l ks f) s = match subI (.mk hk n t l ks f) s with | some i => if s.i = true then l[i]? else f[i]? | none => none := rfl
    have HGO := Lib.hid hgo
    have HSV := Lib.hid hsv
    have HLT := Lib.hid (fun i (hi : subI (.mk hk n t l ks f) s = some i) => subI_lt HE6.out HSR.out hi)
    unfold Hd.val at *
    simp only
    -- the world behind the two blocks
    have hb2 := two_allocs w (Obj.cells #[.int .i64 hk, .int .i64 hnn, .string hss, .slice HA l.length lc, .slice F f.length fc] 25) (Obj.cells #[.int .i64 0, .int .i64 0, .string { data := #[] }, .slice none 0 0, .slice none 0 0] 25)
    have hbx : Bx ((w.alloc (Obj.cells #[.int .i64 hk, .int .i64 hnn, .string hss, .slice HA l.length lc, .slice F f.length fc] 25)).alloc (Obj.cells #[.int .i64 0, .int .i64 0, .string { data := #[] }, .slice none 0 0, .slice none 0 0] 25)) w.heap.size ⟨hk, hnn, hss, HA, l.length, lc, F, f.length, fc⟩ := (Bx.start w ⟨hk, hnn, hss, HA, l.length, lc, F, f.length, fc⟩ 25).alloc _
    have hres : ((w.alloc (Obj.cells #[.int .i64 hk, .int .i64 hnn, .string hss, .slice HA l.length lc, .slice F f.length fc] 25)).alloc (Obj.cells #[.int .i64 0, .int .i64 0, .string { data := #[] }, .slice none 0 0, .slice none 0 0] 25)).rowIs (w.heap.size + 1) 25 5 zeroRes := by
      refine hdAt_row (h := zeroHd) ?_
      have h9 := heap_alloc_new (w.alloc (Obj.cells #[.int .i64 hk, .int .i64 hnn, .string hss, .slice HA l.length lc, .slice F f.length fc] 25)) (Obj.cells #[.int .i64 0, .int .i64 0, .string { data := #[] }, .slice none 0 0, .slice none 0 0] 25)
      rwa [World.size_alloc] at h9
    have hsz : ((w.alloc (Obj.cells #[.int .i64 hk, .int .i64 hnn, .string hss, .slice HA l.length lc, .slice F f.length fc] 25)).alloc (Obj.cells #[.int .i64 0, .int .i64 0, .string { data := #[] }, .slice none 0 0, .slice none 0 0] 25)).heap.size = w.heap.size + 2 := by simp
    clear hA hR e2 e3 e5 e6 hok e0 hgo hsv hcn hm hm1 ih hSb
    go_enter Try.func111, Try.ntmps111
    go_wp2_with fail
    generalize (w.alloc (Obj.cells #[.int .i64 hk, .int .i64 hnn, .string hss, .slice HA l.length lc, .slice F f.length fc] 25)).alloc (Obj.cells #[.int .i64 0, .int .i64 0, .string { data := #[] }, .slice none 0 0, .slice none 0 0] 25) = wd at hb2 hbx hres hsz ⊢
    obtain ⟨q0, q1, q2⟩ := hat.below hb2 hbl
    have hbld : ad.block < wd.heap.size := by omega
    have hNd : w.heap.size < wd.heap.size := by omega
    have Q0 : ∀ x : BlwBy wd, x.now.cell? ad = some (.string s.k) := fun x => x.cellA hbld q0
    have Q1 : ∀ x : BlwBy wd, x.now.cell? ⟨ad.block, ad.off + 1, none⟩ = some (.int .i64 s.a) := fun x => x.cellA (a := ⟨ad.block, ad.off + 1, none⟩) hbld q1
    have Q2 : ∀ x : BlwBy wd, x.now.cell? ⟨ad.block, ad.off + 2, none⟩ = some (.bool s.i) := fun x => x.cellA (a := ⟨ad.block, ad.off + 2, none⟩) hbld q2
    have B0 : ∀ x : BlwBy wd, x.now.cell? ⟨w.heap.size, 0, none⟩ = some (.int .i64 hk) := fun x => x.cell hNd (hbx.2 0 _ rfl)
    have B1 : ∀ x : BlwBy wd, x.now.cell? ⟨w.heap.size, 1, none⟩ = some (.int .i64 hnn) := fun x => x.cell hNd (hbx.2 1 _ rfl)
    have B2 : ∀ x : BlwBy wd, x.now.cell? ⟨w.heap.size, 2, none⟩ = some (.string hss) := fun x => x.cell hNd (hbx.2 2 _ rfl)
    have B3 : ∀ x : BlwBy wd, x.now.cell? ⟨w.heap.size, 3, none⟩ = some (.slice HA l.length lc) := fun x => x.cell hNd (hbx.2 3 _ rfl)
    have B4 : ∀ x : BlwBy wd, x.now.cell? ⟨w.heap.size, 4, none⟩ = some (.slice F f.length fc) := fun x => x.cell hNd (hbx.2 4 _ rfl)
    have HHd := Lib.hid (HH.out.below hb2 (Nat.le_refl _))
    have KM : Hid (∀ x : BlwBy wd, Calls Try.prog 124 #[.agg #[.int .i64 hk, .int .i64 hnn, .string hss, .slice HA l.length lc, .slice F f.length fc], .agg #[.string s.k, .int .i64 s.a, .bool s.i]] x.now fun e w'' => e = .returned (.int .i64 (mI (subI (.mk hk n t l ks f) s))) ∧ ∃ q : BlwBy wd, w'' = q.now) := Lib.hid (fun x => Calls.below_of (member_any (.mk hk n t l ks f) S ⟨hk, hnn, hss, HA, l.length, lc, F, f.length, fc⟩ x.now s (HHd.out.below x.bel (Nat.le_refl _)) HSR.out HCN.out))
    have HB2 := Lib.hid hb2
    have HRES := Lib.hid hres
    have HBX := Lib.hid hbx
    clear hb2 hres hbx
    refine wp_quiet_below (by kernel_rfl) (by kernel_rfl) ?_
    repeat (quiet_step (first | (go_at_call 124; exact KM.out _)))
    refine wpQuiet_nil ?_
    intro w9 hw'
    have hb9 : Below wd.heap.size wd w9 := by obtain ⟨⟨wx, hbx⟩, hw''⟩ := hw'; rw [hw'']; exact hbx
    clear hw'
    have HB9 := Lib.hid (HB2.out.trans (hb9.mono (by omega)))
    have hs9 := hb9.size
    have hres9 := rowIs_below HRES.out hb9 (by omega)
    have HRES9 := Lib.hid hres9
    have HBX9 := Lib.hid (HBX.out.go hb9 (by omega))
    have r0 := (hb9.cell hbld).trans q0
    have r1 := (hb9.cell (p := ⟨ad.block, ad.off + 1, none⟩) hbld).trans q1
    have r2 := (hb9.cell (p := ⟨ad.block, ad.off + 2, none⟩) hbld).trans q2
    have hbl9 : ad.block < w9.heap.size := by omega
    clear Q0 Q1 Q2 B0 B1 B2 B3 B4 KM hres9 HRES HBX q0 q1 q2 hb9
    cases hsi : subI (.mk hk n t l ks f) s with
    | none =>
      have HNO : Hid (goV (.mk hk n t l ks f) (s :: p) = none) := Lib.hid (by rw [HGO.out, HSV.out, hsi])
      have z0 := HRES9.out.cell (show 0 < 5 by decide)
      have z1 := HRES9.out.cell (show 1 < 5 by decide)
      have z2 := HRES9.out.cell (show 2 < 5 by decide)
      have z3 := HRES9.out.cell (show 3 < 5 by decide)
      have z4 := HRES9.out.cell (show 4 < 5 by decide)
      have g0 := HRES9.out.frozen 0
      have g1 := HRES9.out.frozen 1
      have g2 := HRES9.out.frozen 2
      have g3 := HRES9.out.frozen 3
      have g4 := HRES9.out.frozen 4
      simp only [hdAt, Hd.cells, List.getD_cons_succ, List.getD_cons_zero] at z0 z1 z2 z3 z4
      simp only [mI]
      clear hsi
      go_wp2_with fail
      refine bodyPost_ret (v := .tuple #[.agg #[.int .i64 0, .int .i64 0, .string ⟨#[]⟩, .slice none 0 0, .slice none 0 0], .bool false]) (by simp [results, Try.results111, go_sem, z0, z1, z2, z3, z4]; try rfl) rfl ?_
      exact FolR.no HNO.out (res_below HB9.out (Nat.le_succ _))
    | some i =>
      cases hst : s.i
      · obtain ⟨hil, h5⟩ := (HLT.out i hsi).2 hst
        obtain ⟨x, hx⟩ : ∃ x, f[i]? = some x := ⟨f[i], List.getElem?_eq_getElem hil⟩
        obtain ⟨ad2, u, key, hA2, _, hab, _, _, hLu, hat2⟩ := HOP.out.K i x hx
        simp only at hA2
        subst hA2
        obtain ⟨kk, k0, k1, k2, k3, k4⟩ := hat2.below HB9.out hab
        have b3 := HBX9.out.2 4 _ rfl
        have HG : Hid (goV (.mk hk n t l ks f) (s :: p) = goV x p) := Lib.hid (by rw [HGO.out, HSV.out, hsi]; simp only; rw [if_neg (by rw [hst]; decide), hx])
        have HXC := Lib.hid (Nat.le_trans (cnt_sub (k := hk) (n := n) (t := t) (l := l) (ks := ks) (f := f) (.inr (List.mem_of_getElem? hx))) HCN.out)
        have hab9 : ad2.block < w9.heap.size := by rw [adb] at hab; have := HB9.out.size; omega
        have HLu := Lib.hid hLu
        rw [hst] at r2
        clear hat2 hx hLu hsi hst
        simp only [mI]
        have hci : (0 : Int) ≤ (i : Int) := by omega
        have hcj : (i : Int) < (f.length : Int) := by omega
        by_cases hc1 : c = 1
        · subst hc1
          obtain rfl : m = 1 := by omega
          have HS0 : Hid (SF6 w.heap.size 4 (.slice (some ad2) f.length fc) ⟨(ad2.add (i * 6)).block, (ad2.add (i * 6)).off + 1, none⟩ ((ad2.add (i * 6)).off + 2) ((ad2.add (i * 6)).off + 3) ((ad2.add (i * 6)).off + 4) ((ad2.add (i * 6)).off + 5) u w9.drew) := Lib.hid ⟨b3, k0, k1, k2, k3, k4⟩
          have hqb : (ad2.add (i * 6)).block < w9.heap.size := by rw [adb]; exact hab9
          have HBD : Hid (Below w.heap.size w w9.drew) := Lib.hid (HB9.out.trans ((Below.refl _ _).drew))
          have HS1 := Lib.hid (show ∀ w5, Below w9.drew.heap.size w9.drew w5 → SF6 w.heap.size 4 (.slice (some ad2) f.length fc) ⟨(ad2.add (i * 6)).block, (ad2.add (i * 6)).off + 1, none⟩ ((ad2.add (i * 6)).off + 2) ((ad2.add (i * 6)).off + 3) ((ad2.add (i * 6)).off + 4) ((ad2.add (i * 6)).off + 5) u w5 from fun w5 hb => SF6.blk HS0.out (hb.block w.heap.size (show w.heap.size < w9.heap.size by omega)) (hb.block _ hqb))
          have hRq : (ad2.add (i * 6)).block ≠ w.heap.size + 1 := by rw [adb] at hab ⊢; omega
          have HS2 := Lib.hid (show ∀ w5 v0 v1 v2 v3 v4, Below w9.drew.heap.size w9.drew w5 → SF6 w.heap.size 4 (.slice (some ad2) f.length fc) ⟨(ad2.add (i * 6)).block, (ad2.add (i * 6)).off + 1, none⟩ ((ad2.add (i * 6)).off + 2) ((ad2.add (i * 6)).off + 3) ((ad2.add (i * 6)).off + 4) ((ad2.add (i * 6)).off + 5) u (((((w5.setCell ⟨w.heap.size + 1, 0, none⟩ v0).setCell ⟨w.heap.size + 1, 1, none⟩ v1).setCell ⟨w.heap.size + 1, 2, none⟩ v2).setCell ⟨w.heap.size + 1, 3, none⟩ v3).setCell ⟨w.heap.size + 1, 4, none⟩ v4) from fun w5 v0 v1 v2 v3 v4 hb => SF6.blk (HS1.out w5 hb) (by rw [Below.heap_setCell _ _ _ _ (by show w.heap.size ≠ w.heap.size + 1; omega), Below.heap_setCell _ _ _ _ (by show w.heap.size ≠ w.heap.size + 1; omega), Below.heap_setCell _ _ _ _ (by show w.heap.size ≠ w.heap.size + 1; omega), Below.heap_setCell _ _ _ _ (by show w.heap.size ≠ w.heap.size + 1; omega), Below.heap_setCell _ _ _ _ (by show w.heap.size ≠ w.heap.size + 1; omega)]) (by rw [Below.heap_setCell _ _ _ _ hRq, Below.heap_setCell _ _ _ _ hRq, Below.heap_setCell _ _ _ _ hRq, Below.heap_setCell _ _ _ _ hRq, Below.heap_setCell _ _ _ _ hRq]))
          have HCL := Lib.hid (IH.out x u w9.drew (some ad) 0 0 (fun b hb => by have := HSb.out b hb; show b < w9.heap.size; omega) (HLu.out.below HBD.out (Nat.le_refl _)) (by have : p = [] := List.length_eq_zero_iff.1 (by have := HPL.out; omega); rw [this]; exact PathAt.nil _ _) (by have := HPL.out; omega) (Nat.le_refl _) HXC.out)
          have HRR := Lib.hid (show ∀ w5, Below w9.drew.heap.size w9.drew w5 → w5.rowIs (w.heap.size + 1) 25 5 zeroRes from fun w5 hb => rowIs_below HRES9.out.drew hb (show w.heap.size + 1 < w9.heap.size by omega))
          go_wp2_with fail
          go_region_held3 (fun w' => w'.cell? ⟨w.heap.size, 4, none⟩ = some (.slice (some ad2) f.length fc) ∧ w'.cell? ⟨(ad2.add (i * 6)).block, (ad2.add (i * 6)).off + 1, none⟩ = some (.int .i64 u.k) ∧ w'.cell? ⟨(ad2.add (i * 6)).block, (ad2.add (i * 6)).off + 2, none⟩ = some (.int .i64 u.n) ∧ w'.cell? ⟨(ad2.add (i * 6)).block, (ad2.add (i * 6)).off + 3, none⟩ = some (.string u.s) ∧ w'.cell? ⟨(ad2.add (i * 6)).block, (ad2.add (i * 6)).off + 4, none⟩ = some (.slice u.A u.la u.lc) ∧ w'.cell? ⟨(ad2.add (i * 6)).block, (ad2.add (i * 6)).off + 5, none⟩ = some (.slice u.F u.lf u.fc))
            (first
              | (with_reducible exact HS2.out _ _ _ _ _ _ hb5)
              | (have h7 := HS1.out _ hb5; with_reducible exact h7)
              | (have h7 := HS0.out; with_reducible exact h7)
              | fail)
            (first
              | (go_at_call 111; refine HCL.out.mono ?_; rintro e w5 ⟨b, h', ok, rfl, hb5, hl5, ho5⟩; have z0 := (HRR.out _ hb5).cell (show 0 < 5 by decide); have z1 := (HRR.out _ hb5).cell (show 1 < 5 by decide); have z2 := (HRR.out _ hb5).cell (show 2 < 5 by decide); have z3 := (HRR.out _ hb5).cell (show 3 < 5 by decide); have z4 := (HRR.out _ hb5).cell (show 4 < 5 by decide); have g0 := (HRR.out _ hb5).frozen 0; have g1 := (HRR.out _ hb5).frozen 1; have g2 := (HRR.out _ hb5).frozen 2; have g3 := (HRR.out _ hb5).frozen 3; have g4 := (HRR.out _ hb5).frozen 4; have HL5 := Lib.hid hl5; have HO5 := Lib.hid ho5; have HB5 := Lib.hid hb5; clear hl5 ho5; simp only [hdAt, Hd.cells, List.getD_cons_succ, List.getD_cons_zero] at z0 z1 z2 z3 z4)
              | fail)
          all_goals go_wp2_with fail
          all_goals refine bodyPost_ret (v := .tuple #[.agg #[.int .i64 h'.k, .int .i64 h'.n, .string h'.s, .slice h'.A h'.la h'.lc, .slice h'.F h'.lf h'.fc], .bool ok]) (by simp [results, Try.results111, go_sem, z0, z1, z2, z3, z4]; try rfl) rfl ?_
          all_goals exact FolR.res HG.out (Nat.le_succ _) (fun h => by have := HSb.out _ h; omega) (HBD.out.trans (HB5.out.mono HBD.out.size)) HL5.out HO5.out
        · have HS0 : Hid (SF6 w.heap.size 4 (.slice (some ad2) f.length fc) ⟨(ad2.add (i * 6)).block, (ad2.add (i * 6)).off + 1, none⟩ ((ad2.add (i * 6)).off + 2) ((ad2.add (i * 6)).off + 3) ((ad2.add (i * 6)).off + 4) ((ad2.add (i * 6)).off + 5) u w9.drew) := Lib.hid ⟨b3, k0, k1, k2, k3, k4⟩
          have hqb : (ad2.add (i * 6)).block < w9.heap.size := by rw [adb]; exact hab9
          have HBD : Hid (Below w.heap.size w w9.drew) := Lib.hid (HB9.out.trans ((Below.refl _ _).drew))
          have HS1 := Lib.hid (show ∀ w5, Below w9.drew.heap.size w9.drew w5 → SF6 w.heap.size 4 (.slice (some ad2) f.length fc) ⟨(ad2.add (i * 6)).block, (ad2.add (i * 6)).off + 1, none⟩ ((ad2.add (i * 6)).off + 2) ((ad2.add (i * 6)).off + 3) ((ad2.add (i * 6)).off + 4) ((ad2.add (i * 6)).off + 5) u w5 from fun w5 hb => SF6.blk HS0.out (hb.block w.heap.size (show w.heap.size < w9.heap.size by omega)) (hb.block _ hqb))
          have hRq : (ad2.add (i * 6)).block ≠ w.heap.size + 1 := by rw [adb] at hab ⊢; omega
          have HS2 := Lib.hid (show ∀ w5 v0 v1 v2 v3 v4, Below w9.drew.heap.size w9.drew w5 → SF6 w.heap.size 4 (.slice (some ad2) f.length fc) ⟨(ad2.add (i * 6)).block, (ad2.add (i * 6)).off + 1, none⟩ ((ad2.add (i * 6)).off + 2) ((ad2.add (i * 6)).off + 3) ((ad2.add (i * 6)).off + 4) ((ad2.add (i * 6)).off + 5) u (((((w5.setCell ⟨w.heap.size + 1, 0, none⟩ v0).setCell ⟨w.heap.size + 1, 1, none⟩ v1).setCell ⟨w.heap.size + 1, 2, none⟩ v2).setCell ⟨w.heap.size + 1, 3, none⟩ v3).setCell ⟨w.heap.size + 1, 4, none⟩ v4) from fun w5 v0 v1 v2 v3 v4 hb => SF6.blk (HS1.out w5 hb) (by rw [Below.heap_setCell _ _ _ _ (by show w.heap.size ≠ w.heap.size + 1; omega), Below.heap_setCell _ _ _ _ (by show w.heap.size ≠ w.heap.size + 1; omega), Below.heap_setCell _ _ _ _ (by show w.heap.size ≠ w.heap.size + 1; omega), Below.heap_setCell _ _ _ _ (by show w.heap.size ≠ w.heap.size + 1; omega), Below.heap_setCell _ _ _ _ (by show w.heap.size ≠ w.heap.size + 1; omega)]) (by rw [Below.heap_setCell _ _ _ _ hRq, Below.heap_setCell _ _ _ _ hRq, Below.heap_setCell _ _ _ _ hRq, Below.heap_setCell _ _ _ _ hRq, Below.heap_setCell _ _ _ _ hRq]))
          have HCL := Lib.hid (IH.out x u w9.drew (some ⟨ad.block, ad.off + 3, none⟩) (m - 1) (c - 1) (fun b hb => by have := HSb.out b hb; show b < w9.heap.size; omega) (HLu.out.below HBD.out (Nat.le_refl _)) (by have h := HTL.out.below HBD.out (Nat.le_refl _); rwa [add_pos _ (by decide)] at h) (by have := HPL.out; omega) (by omega) HXC.out)
          have HRR := Lib.hid (show ∀ w5, Below w9.drew.heap.size w9.drew w5 → w5.rowIs (w.heap.size + 1) 25 5 zeroRes from fun w5 hb => rowIs_below HRES9.out.drew hb (show w.heap.size + 1 < w9.heap.size by omega))
          go_wp2_with fail
          go_region_held3 (fun w' => w'.cell? ⟨w.heap.size, 4, none⟩ = some (.slice (some ad2) f.length fc) ∧ w'.cell? ⟨(ad2.add (i * 6)).block, (ad2.add (i * 6)).off + 1, none⟩ = some (.int .i64 u.k) ∧ w'.cell? ⟨(ad2.add (i * 6)).block, (ad2.add (i * 6)).off + 2, none⟩ = some (.int .i64 u.n) ∧ w'.cell? ⟨(ad2.add (i * 6)).block, (ad2.add (i * 6)).off + 3, none⟩ = some (.string u.s) ∧ w'.cell? ⟨(ad2.add (i * 6)).block, (ad2.add (i * 6)).off + 4, none⟩ = some (.slice u.A u.la u.lc) ∧ w'.cell? ⟨(ad2.add (i * 6)).block, (ad2.add (i * 6)).off + 5, none⟩ = some (.slice u.F u.lf u.fc))
            (first
              | (with_reducible exact HS2.out _ _ _ _ _ _ hb5)
              | (have h7 := HS1.out _ hb5; with_reducible exact h7)
              | (have h7 := HS0.out; with_reducible exact h7)
              | fail)
            (first
              | (go_at_call 111; refine HCL.out.mono ?_; rintro e w5 ⟨b, h', ok, rfl, hb5, hl5, ho5⟩; have z0 := (HRR.out _ hb5).cell (show 0 < 5 by decide); have z1 := (HRR.out _ hb5).cell (show 1 < 5 by decide); have z2 := (HRR.out _ hb5).cell (show 2 < 5 by decide); have z3 := (HRR.out _ hb5).cell (show 3 < 5 by decide); have z4 := (HRR.out _ hb5).cell (show 4 < 5 by decide); have g0 := (HRR.out _ hb5).frozen 0; have g1 := (HRR.out _ hb5).frozen 1; have g2 := (HRR.out _ hb5).frozen 2; have g3 := (HRR.out _ hb5).frozen 3; have g4 := (HRR.out _ hb5).frozen 4; have HL5 := Lib.hid hl5; have HO5 := Lib.hid ho5; have HB5 := Lib.hid hb5; clear hl5 ho5; simp only [hdAt, Hd.cells, List.getD_cons_succ, List.getD_cons_zero] at z0 z1 z2 z3 z4)
              | fail)
          all_goals go_wp2_with fail
          all_goals refine bodyPost_ret (v := .tuple #[.agg #[.int .i64 h'.k, .int .i64 h'.n, .string h'.s, .slice h'.A h'.la h'.lc, .slice h'.F h'.lf h'.fc], .bool ok]) (by simp [results, Try.results111, go_sem, z0, z1, z2, z3, z4]; try rfl) rfl ?_
          all_goals exact FolR.res HG.out (Nat.le_succ _) (fun h => by have := HSb.out _ h; omega) (HBD.out.trans (HB5.out.mono HBD.out.size)) HL5.out HO5.out
      · obtain ⟨hil, h4⟩ := (HLT.out i hsi).1 hst
        obtain ⟨x, hx⟩ : ∃ x, l[i]? = some x := ⟨l[i], List.getElem?_eq_getElem hil⟩
        obtain ⟨ad2, u, hA2, _, hab, hLu, hat2⟩ := HOP.out.L i x hx
        simp only at hA2
        subst hA2
        obtain ⟨k0, k1, k2, k3, k4⟩ := hat2.below HB9.out hab
        have b3 := HBX9.out.2 3 _ rfl
        have HG : Hid (goV (.mk hk n t l ks f) (s :: p) = goV x p) := Lib.hid (by rw [HGO.out, HSV.out, hsi]; simp only; rw [if_pos hst, hx])
        have HXC := Lib.hid (Nat.le_trans (cnt_sub (k := hk) (n := n) (t := t) (l := l) (ks := ks) (f := f) (.inl (List.mem_of_getElem? hx))) HCN.out)
        have hab9 : ad2.block < w9.heap.size := by rw [adb] at hab; have := HB9.out.size; omega
        have HLu := Lib.hid hLu
        rw [hst] at r2
        clear hat2 hx hLu hsi hst
        simp only [mI]
        have hci : (0 : Int) ≤ (i : Int) := by omega
        have hcj : (i : Int) < (l.length : Int) := by omega
        by_cases hc1 : c = 1
        · subst hc1
          obtain rfl : m = 1 := by omega
          have HS0 : Hid (SF6 w.heap.size 3 (.slice (some ad2) l.length lc) (ad2.add (i * 5)) ((ad2.add (i * 5)).off + 1) ((ad2.add (i * 5)).off + 2) ((ad2.add (i * 5)).off + 3) ((ad2.add (i * 5)).off + 4) u w9.drew) := Lib.hid ⟨b3, k0, k1, k2, k3, k4⟩
          have hqb : (ad2.add (i * 5)).block < w9.heap.size := by rw [adb]; exact hab9
          have HBD : Hid (Below w.heap.size w w9.drew) := Lib.hid (HB9.out.trans ((Below.refl _ _).drew))
          have HS1 := Lib.hid (show ∀ w5, Below w9.drew.heap.size w9.drew w5 → SF6 w.heap.size 3 (.slice (some ad2) l.length lc) (ad2.add (i * 5)) ((ad2.add (i * 5)).off + 1) ((ad2.add (i * 5)).off + 2) ((ad2.add (i * 5)).off + 3) ((ad2.add (i * 5)).off + 4) u w5 from fun w5 hb => SF6.blk HS0.out (hb.block w.heap.size (show w.heap.size < w9.heap.size by omega)) (hb.block _ hqb))
          have hRq : (ad2.add (i * 5)).block ≠ w.heap.size + 1 := by rw [adb] at hab ⊢; omega
          have HS2 := Lib.hid (show ∀ w5 v0 v1 v2 v3 v4, Below w9.drew.heap.size w9.drew w5 → SF6 w.heap.size 3 (.slice (some ad2) l.length lc) (ad2.add (i * 5)) ((ad2.add (i * 5)).off + 1) ((ad2.add (i * 5)).off + 2) ((ad2.add (i * 5)).off + 3) ((ad2.add (i * 5)).off + 4) u (((((w5.setCell ⟨w.heap.size + 1, 0, none⟩ v0).setCell ⟨w.heap.size + 1, 1, none⟩ v1).setCell ⟨w.heap.size + 1, 2, none⟩ v2).setCell ⟨w.heap.size + 1, 3, none⟩ v3).setCell ⟨w.heap.size + 1, 4, none⟩ v4) from fun w5 v0 v1 v2 v3 v4 hb => SF6.blk (HS1.out w5 hb) (by rw [Below.heap_setCell _ _ _ _ (by show w.heap.size ≠ w.heap.size + 1; omega), Below.heap_setCell _ _ _ _ (by show w.heap.size ≠ w.heap.size + 1; omega), Below.heap_setCell _ _ _ _ (by show w.heap.size ≠ w.heap.size + 1; omega), Below.heap_setCell _ _ _ _ (by show w.heap.size ≠ w.heap.size + 1; omega), Below.heap_setCell _ _ _ _ (by show w.heap.size ≠ w.heap.size + 1; omega)]) (by rw [Below.heap_setCell _ _ _ _ hRq, Below.heap_setCell _ _ _ _ hRq, Below.heap_setCell _ _ _ _ hRq, Below.heap_setCell _ _ _ _ hRq, Below.heap_setCell _ _ _ _ hRq]))
          have HCL := Lib.hid (IH.out x u w9.drew (some ad) 0 0 (fun b hb => by have := HSb.out b hb; show b < w9.heap.size; omega) (HLu.out.below HBD.out (Nat.le_refl _)) (by have : p = [] := List.length_eq_zero_iff.1 (by have := HPL.out; omega); rw [this]; exact PathAt.nil _ _) (by have := HPL.out; omega) (Nat.le_refl _) HXC.out)
          have HRR := Lib.hid (show ∀ w5, Below w9.drew.heap.size w9.drew w5 → w5.rowIs (w.heap.size + 1) 25 5 zeroRes from fun w5 hb => rowIs_below HRES9.out.drew hb (show w.heap.size + 1 < w9.heap.size by omega))
          go_wp2_with fail
          go_region_held3 (fun w' => w'.cell? ⟨w.heap.size, 3, none⟩ = some (.slice (some ad2) l.length lc) ∧ w'.cell? (ad2.add (i * 5)) = some (.int .i64 u.k) ∧ w'.cell? ⟨(ad2.add (i * 5)).block, (ad2.add (i * 5)).off + 1, none⟩ = some (.int .i64 u.n) ∧ w'.cell? ⟨(ad2.add (i * 5)).block, (ad2.add (i * 5)).off + 2, none⟩ = some (.string u.s) ∧ w'.cell? ⟨(ad2.add (i * 5)).block, (ad2.add (i * 5)).off + 3, none⟩ = some (.slice u.A u.la u.lc) ∧ w'.cell? ⟨(ad2.add (i * 5)).block, (ad2.add (i * 5)).off + 4, none⟩ = some (.slice u.F u.lf u.fc))
            (first
              | (with_reducible exact HS2.out _ _ _ _ _ _ hb5)
              | (have h7 := HS1.out _ hb5; with_reducible exact h7)
              | (have h7 := HS0.out; with_reducible exact h7)
              | fail)
            (first
              | (go_at_call 111; refine HCL.out.mono ?_; rintro e w5 ⟨b, h', ok, rfl, hb5, hl5, ho5⟩; have z0 := (HRR.out _ hb5).cell (show 0 < 5 by decide); have z1 := (HRR.out _ hb5).cell (show 1 < 5 by decide); have z2 := (HRR.out _ hb5).cell (show 2 < 5 by decide); have z3 := (HRR.out _ hb5).cell (show 3 < 5 by decide); have z4 := (HRR.out _ hb5).cell (show 4 < 5 by decide); have g0 := (HRR.out _ hb5).frozen 0; have g1 := (HRR.out _ hb5).frozen 1; have g2 := (HRR.out _ hb5).frozen 2; have g3 := (HRR.out _ hb5).frozen 3; have g4 := (HRR.out _ hb5).frozen 4; have HL5 := Lib.hid hl5; have HO5 := Lib.hid ho5; have HB5 := Lib.hid hb5; clear hl5 ho5; simp only [hdAt, Hd.cells, List.getD_cons_succ, List.getD_cons_zero] at z0 z1 z2 z3 z4)
              | fail)
          all_goals go_wp2_with fail
          all_goals refine bodyPost_ret (v := .tuple #[.agg #[.int .i64 h'.k, .int .i64 h'.n, .string h'.s, .slice h'.A h'.la h'.lc, .slice h'.F h'.lf h'.fc], .bool ok]) (by simp [results, Try.results111, go_sem, z0, z1, z2, z3, z4]; try rfl) rfl ?_
          all_goals exact FolR.res HG.out (Nat.le_succ _) (fun h => by have := HSb.out _ h; omega) (HBD.out.trans (HB5.out.mono HBD.out.size)) HL5.out HO5.out
        · have HS0 : Hid (SF6 w.heap.size 3 (.slice (some ad2) l.length lc) (ad2.add (i * 5)) ((ad2.add (i * 5)).off + 1) ((ad2.add (i * 5)).off + 2) ((ad2.add (i * 5)).off + 3) ((ad2.add (i * 5)).off + 4) u w9.drew) := Lib.hid ⟨b3, k0, k1, k2, k3, k4⟩
          have hqb : (ad2.add (i * 5)).block < w9.heap.size := by rw [adb]; exact hab9
          have HBD : Hid (Below w.heap.size w w9.drew) := Lib.hid (HB9.out.trans ((Below.refl _ _).drew))
          have HS1 := Lib.hid (show ∀ w5, Below w9.drew.heap.size w9.drew w5 → SF6 w.heap.size 3 (.slice (some ad2) l.length lc) (ad2.add (i * 5)) ((ad2.add (i * 5)).off + 1) ((ad2.add (i * 5)).off + 2) ((ad2.add (i * 5)).off + 3) ((ad2.add (i * 5)).off + 4) u w5 from fun w5 hb => SF6.blk HS0.out (hb.block w.heap.size (show w.heap.size < w9.heap.size by omega)) (hb.block _ hqb))
          have hRq : (ad2.add (i * 5)).block ≠ w.heap.size + 1 := by rw [adb] at hab ⊢; omega
          have HS2 := Lib.hid (show ∀ w5 v0 v1 v2 v3 v4, Below w9.drew.heap.size w9.drew w5 → SF6 w.heap.size 3 (.slice (some ad2) l.length lc) (ad2.add (i * 5)) ((ad2.add (i * 5)).off + 1) ((ad2.add (i * 5)).off + 2) ((ad2.add (i * 5)).off + 3) ((ad2.add (i * 5)).off + 4) u (((((w5.setCell ⟨w.heap.size + 1, 0, none⟩ v0).setCell ⟨w.heap.size + 1, 1, none⟩ v1).setCell ⟨w.heap.size + 1, 2, none⟩ v2).setCell ⟨w.heap.size + 1, 3, none⟩ v3).setCell ⟨w.heap.size + 1, 4, none⟩ v4) from fun w5 v0 v1 v2 v3 v4 hb => SF6.blk (HS1.out w5 hb) (by rw [Below.heap_setCell _ _ _ _ (by show w.heap.size ≠ w.heap.size + 1; omega), Below.heap_setCell _ _ _ _ (by show w.heap.size ≠ w.heap.size + 1; omega), Below.heap_setCell _ _ _ _ (by show w.heap.size ≠ w.heap.size + 1; omega), Below.heap_setCell _ _ _ _ (by show w.heap.size ≠ w.heap.size + 1; omega), Below.heap_setCell _ _ _ _ (by show w.heap.size ≠ w.heap.size + 1; omega)]) (by rw [Below.heap_setCell _ _ _ _ hRq, Below.heap_setCell _ _ _ _ hRq, Below.heap_setCell _ _ _ _ hRq, Below.heap_setCell _ _ _ _ hRq, Below.heap_setCell _ _ _ _ hRq]))
          have HCL := Lib.hid (IH.out x u w9.drew (some ⟨ad.block, ad.off + 3, none⟩) (m - 1) (c - 1) (fun b hb => by have := HSb.out b hb; show b < w9.heap.size; omega) (HLu.out.below HBD.out (Nat.le_refl _)) (by have h := HTL.out.below HBD.out (Nat.le_refl _); rwa [add_pos _ (by decide)] at h) (by have := HPL.out; omega) (by omega) HXC.out)
          have HRR := Lib.hid (show ∀ w5, Below w9.drew.heap.size w9.drew w5 → w5.rowIs (w.heap.size + 1) 25 5 zeroRes from fun w5 hb => rowIs_below HRES9.out.drew hb (show w.heap.size + 1 < w9.heap.size by omega))
          go_wp2_with fail
          go_region_held3 (fun w' => w'.cell? ⟨w.heap.size, 3, none⟩ = some (.slice (some ad2) l.length lc) ∧ w'.cell? (ad2.add (i * 5)) = some (.int .i64 u.k) ∧ w'.cell? ⟨(ad2.add (i * 5)).block, (ad2.add (i * 5)).off + 1, none⟩ = some (.int .i64 u.n) ∧ w'.cell? ⟨(ad2.add (i * 5)).block, (ad2.add (i * 5)).off + 2, none⟩ = some (.string u.s) ∧ w'.cell? ⟨(ad2.add (i * 5)).block, (ad2.add (i * 5)).off + 3, none⟩ = some (.slice u.A u.la u.lc) ∧ w'.cell? ⟨(ad2.add (i * 5)).block, (ad2.add (i * 5)).off + 4, none⟩ = some (.slice u.F u.lf u.fc))
            (first
              | (with_reducible exact HS2.out _ _ _ _ _ _ hb5)
              | (have h7 := HS1.out _ hb5; with_reducible exact h7)
              | (have h7 := HS0.out; with_reducible exact h7)
              | fail)
            (first
              | (go_at_call 111; refine HCL.out.mono ?_; rintro e w5 ⟨b, h', ok, rfl, hb5, hl5, ho5⟩; have z0 := (HRR.out _ hb5).cell (show 0 < 5 by decide); have z1 := (HRR.out _ hb5).cell (show 1 < 5 by decide); have z2 := (HRR.out _ hb5).cell (show 2 < 5 by decide); have z3 := (HRR.out _ hb5).cell (show 3 < 5 by decide); have z4 := (HRR.out _ hb5).cell (show 4 < 5 by decide); have g0 := (HRR.out _ hb5).frozen 0; have g1 := (HRR.out _ hb5).frozen 1; have g2 := (HRR.out _ hb5).frozen 2; have g3 := (HRR.out _ hb5).frozen 3; have g4 := (HRR.out _ hb5).frozen 4; have HL5 := Lib.hid hl5; have HO5 := Lib.hid ho5; have HB5 := Lib.hid hb5; clear hl5 ho5; simp only [hdAt, Hd.cells, List.getD_cons_succ, List.getD_cons_zero] at z0 z1 z2 z3 z4)
              | fail)
          all_goals go_wp2_with fail
          all_goals refine bodyPost_ret (v := .tuple #[.agg #[.int .i64 h'.k, .int .i64 h'.n, .string h'.s, .slice h'.A h'.la h'.lc, .slice h'.F h'.lf h'.fc], .bool ok]) (by simp [results, Try.results111, go_sem, z0, z1, z2, z3, z4]; try rfl) rfl ?_
          all_goals exact FolR.res HG.out (Nat.le_succ _) (fun h => by have := HSb.out _ h; omega) (HBD.out.trans (HB5.out.mono HBD.out.size)) HL5.out HO5.out
end Go.Proofs.Ytmdlcalnncncjaa
