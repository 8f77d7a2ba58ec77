/- path.replaced. -/
import Derived.Test.YtmdlcalnncncjaaPPut
import Derived.Deep.RegionHeld3
import Derived.Deep.CutRange
set_option linter.unusedVariables false
set_option linter.unusedSimpArgs false
namespace Go.Proofs.Ytmdlcalnncncjaa
open Go.RowKit
/-- What replaced answers. -/
def RepR (S : Nat → Prop) (b : Va) (w : World) (e : Ending) (w' : World) : Prop := ∃ h', e = .returned (.agg #[.int .i64 h'.k, .int .i64 h'.n, .string h'.s, .slice h'.A h'.la h'.lc, .slice h'.F h'.lf h'.fc]) ∧ Lies w' (fun b => S b ∨ w.heap.size ≤ b) b h' ∧ Below w.heap.size w w'
/-- What is answered, written into the result's block. -/
abbrev resW (w : World) (R : Nat) (u : Hd) : World := ((((w.setCell ⟨R, 0, none⟩ (.int .i64 u.k)).setCell ⟨R, 1, none⟩ (.int .i64 u.n)).setCell ⟨R, 2, none⟩ (.string u.s)).setCell ⟨R, 3, none⟩ (.slice u.A u.la u.lc)).setCell ⟨R, 4, none⟩ (.slice u.F u.lf u.fc)
theorem putL_below {B g o : Nat} {w w' : World} {u : Hd} (h : Below B w w') (hg : B ≤ g) : Below B w (putL w' g o u) := ((((h.setCell hg _).setCell hg _).setCell hg _).setCell hg _).setCell hg _
theorem put5_below {B g o : Nat} {w w' : World} {u : Hd} (h : Below B w w') (hg : B ≤ g) : Below B w (put5 w' g o u) := ((((h.setCell hg _).setCell hg _).setCell hg _).setCell hg _).setCell hg _
theorem rep_L {S : Nat → Prop} {k n : Int} {t : ByteArray} {l : List Va} {ks : List ByteArray} {f : List Va} {h : Hd} {us : List Hd} {w w11 w5 : World} {R g i cap : Nat} {y' b' : Va} {u' : Hd} (H : Lies w S (.mk k n t l ks f) h) (hus : LiesL w S l us) (hSb : ∀ b, S b → b < w.heap.size) (hbel : Below w.heap.size w w11)
    (hg : w.heap.size ≤ g) (hgR : g ≠ R) (hR : w.heap.size ≤ R) (hR11 : R < w11.heap.size) (hg11 : g < w11.heap.size) (hb5 : Below w11.heap.size w11 w5) (hown : w11.ownsRow w.heap.size 25 5 (.slice (some ⟨g, 0, none⟩) l.length cap) l.length (us.flatMap Hd.cells)) (hi : i < l.length)
    (hy : Lies w5 (fun b => S b ∨ w11.heap.size ≤ b) y' u') (hv : b' = .mk k n t (l.set i y') ks f) :
    RepR S b' w (.returned (.agg #[.int .i64 h.k, .int .i64 h.n, .string h.s, .slice (some ⟨g, 0, none⟩) l.length cap, .slice h.F h.lf h.fc])) (resW (putL w5 g (i * 5) u') R ⟨h.k, h.n, h.s, some ⟨g, 0, none⟩, l.length, cap, h.F, h.lf, h.fc⟩) := by
  subst hv
  have hs11 := hbel.size
  have hbw5 : Below w.heap.size w w5 := hbel.trans (hb5.mono hs11)
  have hblk : ∀ b, b ≠ R → b ≠ g → (resW (putL w5 g (i * 5) u') R ⟨h.k, h.n, h.s, some ⟨g, 0, none⟩, l.length, cap, h.F, h.lf, h.fc⟩).heap[b]? = w5.heap[b]? := fun b h1 h2 => (res_set (w := w) b h1).trans (putL_blk h2)
  refine ⟨⟨h.k, h.n, h.s, some ⟨g, 0, none⟩, l.length, cap, h.F, h.lf, h.fc⟩, rfl, ?_, res_below (putL_below hbw5 hg) hR⟩
  refine lies_setL (wc := w5) H hus (fun b hb => .inl hb) (fun b hb => ⟨hSb b hb, ?_⟩) (.inr hg) hi (own_below hown hb5 (Nat.le_refl _)) (fun p => World.cell?_of_block (a := ⟨g, p, none⟩) (res_set (w := w) g hgR)) ?_
  · have := hSb b hb
    rw [hblk b (by omega) (by omega)]
    exact hbw5.block b this
  · refine Lies.keep (fun q hq _ => World.cell?_of_block (hblk _ ?_ ?_)) (fun b hb _ => ?_) _ _ hy
    · rcases hq with hq | hq
      · have := hSb _ hq; omega
      · omega
    · rcases hq with hq | hq
      · have := hSb _ hq; omega
      · omega
    · rcases hb with hb | hb
      · exact .inl hb
      · exact .inr (by omega)
theorem rep_F {S : Nat → Prop} {k n : Int} {t : ByteArray} {l : List Va} {ks : List ByteArray} {f : List Va} {h : Hd} {vs : List Hd} {w w11 w5 : World} {R g i cap : Nat} {y' b' : Va} {u' : Hd} (H : Lies w S (.mk k n t l ks f) h) (hvs : LiesL w S f vs) (hSb : ∀ b, S b → b < w.heap.size) (hbel : Below w.heap.size w w11)
    (hg : w.heap.size ≤ g) (hgR : g ≠ R) (hR : w.heap.size ≤ R) (hR11 : R < w11.heap.size) (hg11 : g < w11.heap.size) (hb5 : Below w11.heap.size w11 w5) (hown : w11.ownsRow w.heap.size 36 6 (.slice (some ⟨g, 0, none⟩) f.length cap) f.length ((ks.zip vs).flatMap pcells)) (hi : i < f.length)
    (hy : Lies w5 (fun b => S b ∨ w11.heap.size ≤ b) y' u') (hv : b' = .mk k n t l ks (f.set i y')) :
    RepR S b' w (.returned (.agg #[.int .i64 h.k, .int .i64 h.n, .string h.s, .slice h.A h.la h.lc, .slice (some ⟨g, 0, none⟩) f.length cap])) (resW (put5 w5 g (i * 6) u') R ⟨h.k, h.n, h.s, h.A, h.la, h.lc, some ⟨g, 0, none⟩, f.length, cap⟩) := by
  subst hv
  have hs11 := hbel.size
  have hbw5 : Below w.heap.size w w5 := hbel.trans (hb5.mono hs11)
  have hblk : ∀ b, b ≠ R → b ≠ g → (resW (put5 w5 g (i * 6) u') R ⟨h.k, h.n, h.s, h.A, h.la, h.lc, some ⟨g, 0, none⟩, f.length, cap⟩).heap[b]? = w5.heap[b]? := fun b h1 h2 => (res_set (w := w) b h1).trans (put5_blk h2)
  refine ⟨⟨h.k, h.n, h.s, h.A, h.la, h.lc, some ⟨g, 0, none⟩, f.length, cap⟩, rfl, ?_, res_below (put5_below hbw5 hg) hR⟩
  refine lies_setF (wc := w5) H hvs (fun b hb => .inl hb) (fun b hb => ⟨hSb b hb, ?_⟩) (.inr hg) hi (own_below hown hb5 (Nat.le_refl _)) (fun p => World.cell?_of_block (a := ⟨g, p, none⟩) (res_set (w := w) g hgR)) ?_
  · have := hSb b hb
    rw [hblk b (by omega) (by omega)]
    exact hbw5.block b this
  · refine Lies.keep (fun q hq _ => World.cell?_of_block (hblk _ ?_ ?_)) (fun b hb _ => ?_) _ _ hy
    · rcases hq with hq | hq
      · have := hSb _ hq; omega
      · omega
    · rcases hq with hq | hq
      · have := hSb _ hq; omega
      · omega
    · rcases hb with hb | hb
      · exact .inl hb
      · exact .inr (by omega)
/-- The load of the element, under a name. -/
def ldE : Op := Op.load 25 (Operand.tmp 31)
def ldEF : Op := Op.load 25 (Operand.tmp 50)
/-- A slice of the value's box, and what is put. -/
abbrev S6 (N o : Nat) (v : Value) (M : Nat) (x : Hd) (w : World) : Prop := w.cell? ⟨N, o, none⟩ = some v ∧ w.cell? ⟨M, 0, none⟩ = some (.int .i64 x.k) ∧ w.cell? ⟨M, 1, none⟩ = some (.int .i64 x.n) ∧ w.cell? ⟨M, 2, none⟩ = some (.string x.s) ∧ w.cell? ⟨M, 3, none⟩ = some (.slice x.A x.la x.lc) ∧ w.cell? ⟨M, 4, none⟩ = some (.slice x.F x.lf x.fc)
theorem S6.blk {N o M : Nat} {v : Value} {x : Hd} {w w' : World} (h : S6 N o v M x w) (hN : w'.heap[N]? = w.heap[N]?) (hM : w'.heap[M]? = w.heap[M]?) : S6 N o v M x w' :=
  ⟨(World.cell?_of_block (a := ⟨N, o, none⟩) hN).trans h.1, (World.cell?_of_block (a := ⟨M, 0, none⟩) hM).trans h.2.1, (World.cell?_of_block (a := ⟨M, 1, none⟩) hM).trans h.2.2.1, (World.cell?_of_block (a := ⟨M, 2, none⟩) hM).trans h.2.2.2.1, (World.cell?_of_block (a := ⟨M, 3, none⟩) hM).trans h.2.2.2.2.1, (World.cell?_of_block (a := ⟨M, 4, none⟩) hM).trans h.2.2.2.2.2⟩
theorem three_allocs (w : World) (o1 o2 o3 : Obj) : Below w.heap.size w (((w.alloc o1).alloc o2).alloc o3) := ((((Below.refl _ _).alloc (Nat.le_refl _) _).alloc (by simp) _).alloc (by simp; omega) _)
set_option maxHeartbeats 16000000 in
set_option maxRecDepth 100000 in
theorem replaced_any (S : Nat → Prop) (x : Va) (hx : Hd) (p : List St) : ∀ (a : Va) (h : Hd) (w : World) (A : Option Addr) (m c : Nat), (∀ b, S b → b < w.heap.size) → Lies w S a h → Lies w S x hx → PathAt w A p → (∀ s ∈ p, StR s) → m = p.length → m ≤ c → m ≤ 1000 → a.cnt ≤ 1000 → (goV a p).isSome = true →
    Calls Try.prog 112 #[h.val, .slice A m c, hx.val] w fun e w' => RepR S (putV a p x) w e w' := by
  induction p with
  | nil =>
    intro a h w A m c hSb H HX hA hR hm hc hp hcn hgo
    obtain rfl : m = 0 := hm
    have HXX := Lib.hid HX
    have HB3 := Lib.hid (three_allocs w (Obj.cells #[.int .i64 h.k, .int .i64 h.n, .string h.s, .slice h.A h.la h.lc, .slice h.F h.lf h.fc] 25) (Obj.cells #[.int .i64 hx.k, .int .i64 hx.n, .string hx.s, .slice hx.A hx.la hx.lc, .slice hx.F hx.lf hx.fc] 25) (Obj.cells #[.int .i64 hx.k, .int .i64 hx.n, .string hx.s, .slice hx.A hx.la hx.lc, .slice hx.F hx.lf hx.fc] 25))
    have hpv : putV a [] x = x := by cases a; rfl
    rw [hpv]
    clear H HX hA hR hc hp hcn hgo hSb hpv
    unfold Hd.val at *
    go_enter Try.func112, Try.ntmps112
    go_wp2_with fail
    refine bodyPost_ret (v := .agg #[.int .i64 hx.k, .int .i64 hx.n, .string hx.s, .slice hx.A hx.la hx.lc, .slice hx.F hx.lf hx.fc]) (by simp [results, Try.results112, go_sem]; try rfl) rfl ?_
    exact ⟨hx, rfl, Lies.keep (fun q _ hq => HB3.out.cell hq) (fun b hb _ => .inl hb) _ _ HXX.out, HB3.out⟩
  | cons s p ih =>
    intro a h w A m c hSb H HX hA hR hm hc hp hcn hgo
    obtain ⟨ad, rfl, hbl, hat, hok⟩ := hA 0 s rfl
    have e0 : ad.add (0 * 3) = ad := by simp [Addr.add]
    rw [e0] at hat hbl
    have HSR := Lib.hid (hR s (by simp))
    have HTL := Lib.hid hA.tail
    have hm1 : m = p.length + 1 := by simpa using hm
    have HPL := Lib.hid hm1
    have HSb := Lib.hid hSb
    have hm0i : (1 : Int) ≤ (m : Int) := by omega
    have hm0j : (0 : Int) < (m : Int) := by omega
    have hm0k : 0 < m := by omega
    have hm00 : ((m : Int) == 0) = false := by simp; omega
    obtain ⟨k, n, t, l, ks, f⟩ := a
    obtain ⟨bb, hbb⟩ := Option.isSome_iff_exists.1 hgo
    obtain ⟨i, y, hsi, hyL, hyF, hgy⟩ := goV_cons hbb
    have HGY : Hid ((goV y p).isSome = true) := Lib.hid (by rw [hgy]; rfl)
    have IH := Lib.hid (fun (y : Va) (u : Hd) (W : World) (A' : Option Addr) (m' c' : Nat) (h0 : ∀ b, S b → b < W.heap.size) (h1 : Lies W S y u) (h2 : Lies W S x hx) (h3 : PathAt W A' p) (h4 : m' = p.length) (h5 : m' ≤ c') (h6 : y.cnt ≤ 1000) (h7 : (goV y p).isSome = true) => ih y u W A' m' c' h0 h1 h2 h3 (fun t ht => hR t (by simp [ht])) h4 h5 (by omega) h6 h7)
    have HH := Lib.hid H
    have HXX := Lib.hid HX
    simp only [Lies] at H
    obtain ⟨⟨e1, e2, e3, e4, e5, e6⟩, -, -⟩ := H
    obtain ⟨hk, hnn, hss, HA, la, lc, F, lf, fc⟩ := h
    simp only at e1 e4 e5
    subst e1 e4
    have hlf : lf = f.length := e5
    subst hlf
    have HE6 := Lib.hid e6
    have HCN := Lib.hid hcn
    have hll : l.length ≤ 1000 := by have := len_le_cntL l; simp only [Va.cnt] at hcn; omega
    have hfl : f.length ≤ 1000 := by have := len_le_cntL f; simp only [Va.cnt] at hcn; omega
    have HLT := Lib.hid (subI_lt e6 HSR.out hsi)
    have HSI := Lib.hid hsi
    unfold Hd.val at *
    simp only
    -- the world behind the three blocks
    obtain ⟨wd, hwd⟩ : ∃ wd, wd = ((w.alloc (Obj.cells #[.int .i64 hk, .int .i64 hnn, .string hss, .slice HA l.length lc, .slice F f.length fc] 25)).alloc (Obj.cells #[.int .i64 hx.k, .int .i64 hx.n, .string hx.s, .slice hx.A hx.la hx.lc, .slice hx.F hx.lf hx.fc] 25)).alloc (Obj.cells #[.int .i64 0, .int .i64 0, .string { data := #[] }, .slice none 0 0, .slice none 0 0] 25) := ⟨_, rfl⟩
    have hb2 : Below w.heap.size w wd := by rw [hwd]; exact three_allocs _ _ _ _
    have hsz : wd.heap.size = w.heap.size + 3 := by rw [hwd]; simp
    have hbox : wd.rowIs w.heap.size 25 5 (hdAt ⟨hk, hnn, hss, HA, l.length, lc, F, f.length, fc⟩) := by
      rw [hwd]
      refine hdAt_row ?_
      rw [Below.heap_alloc _ _ _ (by simp; omega), Below.heap_alloc _ _ _ (by simp)]
      exact heap_alloc_new _ _
    have hbxx : wd.rowIs (w.heap.size + 1) 25 5 (hdAt hx) := by
      rw [hwd]
      refine hdAt_row ?_
      rw [Below.heap_alloc _ _ _ (by simp)]
      have h9 := heap_alloc_new (w.alloc (Obj.cells #[.int .i64 hk, .int .i64 hnn, .string hss, .slice HA l.length lc, .slice F f.length fc] 25)) (Obj.cells #[.int .i64 hx.k, .int .i64 hx.n, .string hx.s, .slice hx.A hx.la hx.lc, .slice hx.F hx.lf hx.fc] 25)
      rwa [World.size_alloc] at h9
    have hres : wd.rowIs (w.heap.size + 1 + 1) 25 5 zeroRes := by
      rw [hwd]
      refine hdAt_row (h := zeroHd) ?_
      have h9 := heap_alloc_new ((w.alloc (Obj.cells #[.int .i64 hk, .int .i64 hnn, .string hss, .slice HA l.length lc, .slice F f.length fc] 25)).alloc (Obj.cells #[.int .i64 hx.k, .int .i64 hx.n, .string hx.s, .slice hx.A hx.la hx.lc, .slice hx.F hx.lf hx.fc] 25)) (Obj.cells #[.int .i64 0, .int .i64 0, .string { data := #[] }, .slice none 0 0, .slice none 0 0] 25)
      rwa [World.size_alloc, World.size_alloc] at h9
    have HWD := Lib.hid hwd
    clear hA hR e2 e3 e5 e6 hok e0 hcn hm hm1 ih hgo hbb hwd hSb HX hgy
    go_enter Try.func112, Try.ntmps112
    go_wp2_with fail
    rw [← HWD.out]
    clear HWD
    obtain ⟨q0, q1, q2⟩ := hat.below hb2 hbl
    have hbld : ad.block < wd.heap.size := by omega
    have hNd : w.heap.size < wd.heap.size := by omega
    have b0 := hbox.cell (show 0 < 5 by decide)
    have b1 := hbox.cell (show 1 < 5 by decide)
    have b2 := hbox.cell (show 2 < 5 by decide)
    have b3 := hbox.cell (show 3 < 5 by decide)
    have b4 := hbox.cell (show 4 < 5 by decide)
    simp only [hdAt, Hd.cells, List.getD_cons_succ, List.getD_cons_zero] at b0 b1 b2 b3 b4
    have Q0 : ∀ x : BlwBy wd, x.now.cell? ad = some (.string s.k) := fun x => x.cellA hbld q0
    have Q1 : ∀ x : BlwBy wd, x.now.cell? ⟨ad.block, ad.off + 1, none⟩ = some (.int .i64 s.a) := fun x => x.cellA (a := ⟨ad.block, ad.off + 1, none⟩) hbld q1
    have Q2 : ∀ x : BlwBy wd, x.now.cell? ⟨ad.block, ad.off + 2, none⟩ = some (.bool s.i) := fun x => x.cellA (a := ⟨ad.block, ad.off + 2, none⟩) hbld q2
    have B0 : ∀ x : BlwBy wd, x.now.cell? ⟨w.heap.size, 0, none⟩ = some (.int .i64 hk) := fun x => x.cell hNd b0
    have B1 : ∀ x : BlwBy wd, x.now.cell? ⟨w.heap.size, 1, none⟩ = some (.int .i64 hnn) := fun x => x.cell hNd b1
    have B2 : ∀ x : BlwBy wd, x.now.cell? ⟨w.heap.size, 2, none⟩ = some (.string hss) := fun x => x.cell hNd b2
    have B3 : ∀ x : BlwBy wd, x.now.cell? ⟨w.heap.size, 3, none⟩ = some (.slice HA l.length lc) := fun x => x.cell hNd b3
    have B4 : ∀ x : BlwBy wd, x.now.cell? ⟨w.heap.size, 4, none⟩ = some (.slice F f.length fc) := fun x => x.cell hNd b4
    have HHd := Lib.hid (HH.out.below hb2 (Nat.le_refl _))
    have KM : Hid (∀ x : BlwBy wd, Calls Try.prog 124 #[.agg #[.int .i64 hk, .int .i64 hnn, .string hss, .slice HA l.length lc, .slice F f.length fc], .agg #[.string s.k, .int .i64 s.a, .bool s.i]] x.now fun e w'' => e = .returned (.int .i64 (mI (subI (.mk hk n t l ks f) s))) ∧ ∃ q : BlwBy wd, w'' = q.now) := Lib.hid (fun x => Calls.below_of (member_any (.mk hk n t l ks f) S ⟨hk, hnn, hss, HA, l.length, lc, F, f.length, fc⟩ x.now s (HHd.out.below x.bel (Nat.le_refl _)) HSR.out HCN.out))
    have HB2 := Lib.hid hb2
    have HRES := Lib.hid hres
    have HBOX := Lib.hid hbox
    have HBXX := Lib.hid hbxx
    clear hb2 hres hbox hbxx b0 b1 b2 b3 b4
    refine wp_quiet_below (by kernel_rfl) (by kernel_rfl) ?_
    repeat (quiet_step (first | (go_at_call 124; exact KM.out _)))
    refine wpQuiet_nil ?_
    intro w9 hw'
    have hb9 : Below wd.heap.size wd w9 := by obtain ⟨⟨wx, hbx⟩, hw''⟩ := hw'; rw [hw'']; exact hbx
    clear hw'
    have HB9 := Lib.hid (HB2.out.trans (hb9.mono (by omega)))
    have hs9 := hb9.size
    have HRES9 := Lib.hid (rowIs_below HRES.out hb9 (by omega))
    have HBOX9 := Lib.hid (rowIs_below HBOX.out hb9 (by omega))
    have HBXX9 := Lib.hid (rowIs_below HBXX.out hb9 (by omega))
    have r0 := (hb9.cell hbld).trans q0
    have r1 := (hb9.cell (p := ⟨ad.block, ad.off + 1, none⟩) hbld).trans q1
    have r2 := (hb9.cell (p := ⟨ad.block, ad.off + 2, none⟩) hbld).trans q2
    have hbl9 : ad.block < w9.heap.size := by omega
    clear Q0 Q1 Q2 B0 B1 B2 B3 B4 KM HRES HBOX HBXX q0 q1 q2 hb9 HHd HB2
    simp only [mI]
    have hci : (0 : Int) ≤ (i : Int) := by omega
    cases hst : s.i
    · have hyl := hyF hst
      obtain ⟨hil, -⟩ := HLT.out.2 hst
      obtain ⟨us, vs, hul, hvl, hrL, hLL, hrF, hFF⟩ := HH.out.rows
      have hzl : (ks.zip vs).length = f.length := by rw [List.length_zip, hvl, HE6.out]; omega
      obtain ⟨ad2, hA2, hSad, hcL⟩ := hrF (by rw [List.length_map]; omega)
      simp only at hA2
      subst hA2
      rw [hst] at r2
      have had2 : ad2.block < w.heap.size := HSb.out _ hSad
      have b3 := HBOX9.out.cell (show 4 < 5 by decide)
      have f3 := HBOX9.out.frozen 4
      simp only [hdAt, Hd.cells, List.getD_cons_succ, List.getD_cons_zero] at b3
      have KC := Lib.hid (cloneF (ks.zip vs) ad2 f.length fc w9 hzl.symm (by omega) hfl (fun j v hv jj c hc => by
        rw [HB9.out.cell (by rw [adb]; exact had2)]
        exact hcL j (pcells v) (by rw [List.getElem?_map, hv]; rfl) jj c hc))
      have HLL := Lib.hid hFF
      have HZL := Lib.hid hzl
      clear hzl
      have HYL := Lib.hid hyl
      clear hcL hLL hFF hrF hrL hyl hyL hyF
      go_wp2_with fail
      refine KC.out.mono ?_
      rintro e w10 ⟨g, cap, rfl, hown, hb10⟩
      have hs10 := hb10.size
      have hgl := own_lo hown (g := g) rfl
      have box10 := rowIs_below HBOX9.out hb10 (by omega)
      have c3 := box10.cell (show 4 < 5 by decide)
      have g3 := box10.frozen 4
      simp only [hdAt, Hd.cells, List.getD_cons_succ, List.getD_cons_zero] at c3
      clear b3 f3 KC
      go_upto_region 9 with fail
      have hgN : g ≠ w.heap.size := by omega
      have box11 : (w10.setCell ⟨w.heap.size, 4, none⟩ (.slice (some ⟨g, 0, none⟩) f.length cap)).rowIs w.heap.size 25 5 (hdAt ⟨hk, hnn, hss, HA, l.length, lc, some ⟨g, 0, none⟩, f.length, cap⟩) := by
        refine (box10.set 4 _).congr (fun j hj => ?_)
        match j, hj with
        | 0, _ => rfl
        | 1, _ => rfl
        | 2, _ => rfl
        | 3, _ => rfl
        | 4, _ => rfl
      have own11 : (w10.setCell ⟨w.heap.size, 4, none⟩ (.slice (some ⟨g, 0, none⟩) f.length cap)).ownsRow w9.heap.size 36 6 (.slice (some ⟨g, 0, none⟩) f.length cap) f.length ((ks.zip vs).flatMap pcells) := own_block hown (fun b hb => Below.heap_setCell _ _ _ _ (by simp [Value.ownBlock] at hb; show b ≠ w.heap.size; omega))
      have blk11 : ∀ b, b < w9.heap.size → b ≠ w.heap.size → (w10.setCell ⟨w.heap.size, 4, none⟩ (.slice (some ⟨g, 0, none⟩) f.length cap)).heap[b]? = w9.heap[b]? := fun b h1 h2 => (Below.heap_setCell _ _ _ _ h2).trans (hb10.block b h1)
      have bel11 : Below w.heap.size w (w10.setCell ⟨w.heap.size, 4, none⟩ (.slice (some ⟨g, 0, none⟩) f.length cap)) := (HB9.out.trans (hb10.mono (by omega))).setCell (Nat.le_refl _) _
      have sz11 : (w10.setCell ⟨w.heap.size, 4, none⟩ (.slice (some ⟨g, 0, none⟩) f.length cap)).heap.size = w10.heap.size := by simp
      generalize w10.setCell ⟨w.heap.size, 4, none⟩ (.slice (some ⟨g, 0, none⟩) f.length cap) = w11 at box11 own11 blk11 bel11 sz11 ⊢
      have HBOX := Lib.hid box11
      have HOWN := Lib.hid own11
      have HBLK := Lib.hid blk11
      have HBEL := Lib.hid bel11
      have HRES := Lib.hid (show w11.rowIs (w.heap.size + 1 + 1) 25 5 zeroRes from HRES9.out.of_block (blk11 _ (by omega) (by omega)))
      have HBXX := Lib.hid (show w11.rowIs (w.heap.size + 1) 25 5 (hdAt hx) from HBXX9.out.of_block (blk11 _ (by omega) (by omega)))
      clear box11 own11 blk11 bel11 hown hb10 box10 c3 g3 HRES9 HBXX9 HBOX9
      obtain ⟨u, hu, hLu⟩ := LiesL_at HLL.out HYL.out
      have hrow11 := row_of_own (S := fun _ => True) pcells (ks.zip vs) pcells_len HOWN.out (fun _ _ => trivial) (.inr (by decide))
      obtain ⟨adx, ex, _, hcx⟩ := hrow11 (by rw [List.length_map]; have := HZL.out; omega)
      obtain rfl : adx = ⟨g, 0, none⟩ := by injection ex with ex; exact ex.symm
      obtain ⟨ky, hky⟩ : ∃ ky, ks[i]? = some ky := ⟨ks[i]'(by have := HE6.out; omega), List.getElem?_eq_getElem (by have := HE6.out; omega)⟩
      have hce : ∀ j v, (pcells (ky, u))[j]? = some v → w11.cell? ⟨g, i * 6 + j, none⟩ = some v := fun j v hv => by
        have := hcx i (pcells (ky, u)) (by rw [List.getElem?_map, show (ks.zip vs)[i]? = some (ky, u) from List.getElem?_zip_eq_some.2 ⟨hky, hu⟩]; rfl) j v hv
        rwa [add0] at this
      have k0 := hce 1 _ rfl
      have k1 := hce 2 _ rfl
      have k2 := hce 3 _ rfl
      have k3 := hce 4 _ rfl
      have k4 := hce 5 _ rfl
      have b3 := HBOX.out.cell (show 4 < 5 by decide)
      have x0 := HBXX.out.cell (show 0 < 5 by decide)
      have x1 := HBXX.out.cell (show 1 < 5 by decide)
      have x2 := HBXX.out.cell (show 2 < 5 by decide)
      have x3 := HBXX.out.cell (show 3 < 5 by decide)
      have x4 := HBXX.out.cell (show 4 < 5 by decide)
      simp only [hdAt, Hd.cells, List.getD_cons_succ, List.getD_cons_zero] at b3 x0 x1 x2 x3 x4
      have HU := Lib.hid hu
      have HLu := Lib.hid hLu
      clear hcx hrow11 ex hu hLu
      have hcjl : (i : Int) < (f.length : Int) := by omega
      have HK := Lib.hid hce
      clear hce
      have hgl11 : g < w11.heap.size := by omega
      have hfr : ∀ o, w11.frozen? ⟨g, o, none⟩ = false := fun o => by
        rcases HOWN.out.2 with ⟨e, _⟩ | ⟨g2, cap2, cur, hv, _, hh, _⟩
        · cases e
        · injection hv with e1
          injection e1 with e1
          injection e1 with e1
          subst e1
          simp [World.frozen?, hh]
      have HFR := Lib.hid hfr
      clear hfr
      have HS0 : Hid (S6 w.heap.size 4 (.slice (some ⟨g, 0, none⟩) f.length cap) (w.heap.size + 1) hx w11.drew) := Lib.hid ⟨b3, x0, x1, x2, x3, x4⟩
      have HS1 := Lib.hid (show ∀ w5, Below w11.drew.heap.size w11.drew w5 → S6 w.heap.size 4 (.slice (some ⟨g, 0, none⟩) f.length cap) (w.heap.size + 1) hx w5 from fun w5 hb => S6.blk HS0.out (hb.block _ (show w.heap.size < w11.heap.size by omega)) (hb.block _ (show w.heap.size + 1 < w11.heap.size by omega)))
      have HS2 := Lib.hid (show ∀ w5 (v : Hd), Below w11.drew.heap.size w11.drew w5 → S6 w.heap.size 4 (.slice (some ⟨g, 0, none⟩) f.length cap) (w.heap.size + 1) hx (put5 w5 g (i * 6) v) from fun w5 v hb => S6.blk (HS1.out w5 hb) (put5_blk (by omega)) (put5_blk (by omega)))
      have HRR := Lib.hid (show ∀ w5, Below w11.drew.heap.size w11.drew w5 → w5.rowIs (w.heap.size + 1 + 1) 25 5 zeroRes ∧ w5.rowIs w.heap.size 25 5 (hdAt ⟨hk, hnn, hss, HA, l.length, lc, some ⟨g, 0, none⟩, f.length, cap⟩) from fun w5 hb => ⟨rowIs_below HRES.out.drew hb (show w.heap.size + 1 + 1 < w11.heap.size by omega), rowIs_below HBOX.out.drew hb (show w.heap.size < w11.heap.size by omega)⟩)
      have HKK := Lib.hid (show ∀ w5 o, Below w11.drew.heap.size w11.drew w5 → w5.cell? ⟨g, o, none⟩ = w11.cell? ⟨g, o, none⟩ ∧ w5.frozen? ⟨g, o, none⟩ = false from fun w5 o hb => ⟨hb.cell (p := ⟨g, o, none⟩) hgl11, (hb.frozen (p := ⟨g, o, none⟩) hgl11).trans (HFR.out o)⟩)
      have HBD : Hid (Below w.heap.size w w11.drew) := Lib.hid (HBEL.out.trans ((Below.refl _ _).drew))
      have HXC := Lib.hid (Nat.le_trans (cnt_sub (k := hk) (n := n) (t := t) (l := l) (ks := ks) (f := f) (.inr (List.mem_of_getElem? HYL.out))) HCN.out)
      have hld : ldEF = Op.load 25 (Operand.tmp 50) := rfl
      by_cases hc1 : c = 1
      · subst hc1
        obtain rfl : m = 1 := by omega
        have HCL := Lib.hid (IH.out y u w11.drew (some ad) 0 0 (fun b hb => by have := HSb.out b hb; show b < w11.heap.size; omega) (HLu.out.below HBD.out (Nat.le_refl _)) (HXX.out.below HBD.out (Nat.le_refl _)) (by have : p = [] := List.length_eq_zero_iff.1 (by have := HPL.out; omega); rw [this]; exact PathAt.nil _ _) (by have := HPL.out; omega) (Nat.le_refl _) HXC.out HGY.out)
        go_wp2_with fail
        rw [show Op.load 25 (Operand.tmp 50) = ldEF from rfl]
        go_region_held3 (fun w' => w'.cell? ⟨w.heap.size, 4, none⟩ = some (.slice (some ⟨g, 0, none⟩) f.length cap) ∧ w'.cell? ⟨w.heap.size + 1, 0, none⟩ = some (.int .i64 hx.k) ∧ w'.cell? ⟨w.heap.size + 1, 1, none⟩ = some (.int .i64 hx.n) ∧ w'.cell? ⟨w.heap.size + 1, 2, none⟩ = some (.string hx.s) ∧ w'.cell? ⟨w.heap.size + 1, 3, none⟩ = some (.slice hx.A hx.la hx.lc) ∧ w'.cell? ⟨w.heap.size + 1, 4, none⟩ = some (.slice hx.F hx.lf hx.fc))
          (first
            | (with_reducible exact HS2.out _ _ hb5)
            | (have h7 := HS1.out _ hb5; with_reducible exact h7)
            | (have h7 := HS0.out; with_reducible exact h7)
            | fail)
          (first
            | (go_at_call 112; refine HCL.out.mono ?_; rintro e w5 ⟨h', rfl, hl5, hb5⟩; have y0 := (HKK.out _ (i * 6 + 1) hb5).1.trans k0; have yf0 := (HKK.out _ (i * 6 + 1) hb5).2; have y1 := (HKK.out _ (i * 6 + 2) hb5).1.trans k1; have yf1 := (HKK.out _ (i * 6 + 2) hb5).2; have y2 := (HKK.out _ (i * 6 + 3) hb5).1.trans k2; have yf2 := (HKK.out _ (i * 6 + 3) hb5).2; have y3 := (HKK.out _ (i * 6 + 4) hb5).1.trans k3; have yf3 := (HKK.out _ (i * 6 + 4) hb5).2; have y4 := (HKK.out _ (i * 6 + 5) hb5).1.trans k4; have yf4 := (HKK.out _ (i * 6 + 5) hb5).2; have z0 := (HRR.out _ hb5).1.cell (show 0 < 5 by decide); have g0 := (HRR.out _ hb5).1.frozen 0; have c0 := (HRR.out _ hb5).2.cell (show 0 < 5 by decide); have z1 := (HRR.out _ hb5).1.cell (show 1 < 5 by decide); have g1 := (HRR.out _ hb5).1.frozen 1; have c1 := (HRR.out _ hb5).2.cell (show 1 < 5 by decide); have z2 := (HRR.out _ hb5).1.cell (show 2 < 5 by decide); have g2 := (HRR.out _ hb5).1.frozen 2; have c2 := (HRR.out _ hb5).2.cell (show 2 < 5 by decide); have z3 := (HRR.out _ hb5).1.cell (show 3 < 5 by decide); have g3 := (HRR.out _ hb5).1.frozen 3; have c3 := (HRR.out _ hb5).2.cell (show 3 < 5 by decide); have z4 := (HRR.out _ hb5).1.cell (show 4 < 5 by decide); have g4 := (HRR.out _ hb5).1.frozen 4; have c4 := (HRR.out _ hb5).2.cell (show 4 < 5 by decide); have HL5 := Lib.hid hl5; have HB5 := Lib.hid hb5; clear hl5; simp only [hdAt, Hd.cells, List.getD_cons_succ, List.getD_cons_zero] at z0 z1 z2 z3 z4 c0 c1 c2 c3 c4)
            | fail)
        all_goals go_wp2_with fail
        all_goals refine bodyPost_ret (v := .agg #[.int .i64 hk, .int .i64 hnn, .string hss, .slice HA l.length lc, .slice (some ⟨g, 0, none⟩) f.length cap]) (by simp [results, Try.results112, go_sem, z0, z1, z2, z3, z4]; try rfl) rfl ?_
        all_goals exact rep_F HH.out HLL.out HSb.out HBD.out (by omega) (by omega) (by omega) (show w.heap.size + 1 + 1 < w11.heap.size by omega) hgl11 HB5.out (own_base HOWN.out (by omega)) hil HL5.out (putV_F HSI.out hst HYL.out)
      · have HCL := Lib.hid (IH.out y u w11.drew (some ⟨ad.block, ad.off + 3, none⟩) (m - 1) (c - 1) (fun b hb => by have := HSb.out b hb; show b < w11.heap.size; omega) (HLu.out.below HBD.out (Nat.le_refl _)) (HXX.out.below HBD.out (Nat.le_refl _)) (by have h := HTL.out.below HBD.out (Nat.le_refl _); rwa [add_pos _ (by decide)] at h) (by have := HPL.out; omega) (by omega) HXC.out HGY.out)
        go_wp2_with fail
        rw [show Op.load 25 (Operand.tmp 50) = ldEF from rfl]
        go_region_held3 (fun w' => w'.cell? ⟨w.heap.size, 4, none⟩ = some (.slice (some ⟨g, 0, none⟩) f.length cap) ∧ w'.cell? ⟨w.heap.size + 1, 0, none⟩ = some (.int .i64 hx.k) ∧ w'.cell? ⟨w.heap.size + 1, 1, none⟩ = some (.int .i64 hx.n) ∧ w'.cell? ⟨w.heap.size + 1, 2, none⟩ = some (.string hx.s) ∧ w'.cell? ⟨w.heap.size + 1, 3, none⟩ = some (.slice hx.A hx.la hx.lc) ∧ w'.cell? ⟨w.heap.size + 1, 4, none⟩ = some (.slice hx.F hx.lf hx.fc))
          (first
            | (with_reducible exact HS2.out _ _ hb5)
            | (have h7 := HS1.out _ hb5; with_reducible exact h7)
            | (have h7 := HS0.out; with_reducible exact h7)
            | fail)
          (first
            | (go_at_call 112; refine HCL.out.mono ?_; rintro e w5 ⟨h', rfl, hl5, hb5⟩; have y0 := (HKK.out _ (i * 6 + 1) hb5).1.trans k0; have yf0 := (HKK.out _ (i * 6 + 1) hb5).2; have y1 := (HKK.out _ (i * 6 + 2) hb5).1.trans k1; have yf1 := (HKK.out _ (i * 6 + 2) hb5).2; have y2 := (HKK.out _ (i * 6 + 3) hb5).1.trans k2; have yf2 := (HKK.out _ (i * 6 + 3) hb5).2; have y3 := (HKK.out _ (i * 6 + 4) hb5).1.trans k3; have yf3 := (HKK.out _ (i * 6 + 4) hb5).2; have y4 := (HKK.out _ (i * 6 + 5) hb5).1.trans k4; have yf4 := (HKK.out _ (i * 6 + 5) hb5).2; have z0 := (HRR.out _ hb5).1.cell (show 0 < 5 by decide); have g0 := (HRR.out _ hb5).1.frozen 0; have c0 := (HRR.out _ hb5).2.cell (show 0 < 5 by decide); have z1 := (HRR.out _ hb5).1.cell (show 1 < 5 by decide); have g1 := (HRR.out _ hb5).1.frozen 1; have c1 := (HRR.out _ hb5).2.cell (show 1 < 5 by decide); have z2 := (HRR.out _ hb5).1.cell (show 2 < 5 by decide); have g2 := (HRR.out _ hb5).1.frozen 2; have c2 := (HRR.out _ hb5).2.cell (show 2 < 5 by decide); have z3 := (HRR.out _ hb5).1.cell (show 3 < 5 by decide); have g3 := (HRR.out _ hb5).1.frozen 3; have c3 := (HRR.out _ hb5).2.cell (show 3 < 5 by decide); have z4 := (HRR.out _ hb5).1.cell (show 4 < 5 by decide); have g4 := (HRR.out _ hb5).1.frozen 4; have c4 := (HRR.out _ hb5).2.cell (show 4 < 5 by decide); have HL5 := Lib.hid hl5; have HB5 := Lib.hid hb5; clear hl5; simp only [hdAt, Hd.cells, List.getD_cons_succ, List.getD_cons_zero] at z0 z1 z2 z3 z4 c0 c1 c2 c3 c4)
            | fail)
        all_goals go_wp2_with fail
        all_goals refine bodyPost_ret (v := .agg #[.int .i64 hk, .int .i64 hnn, .string hss, .slice HA l.length lc, .slice (some ⟨g, 0, none⟩) f.length cap]) (by simp [results, Try.results112, go_sem, z0, z1, z2, z3, z4]; try rfl) rfl ?_
        all_goals exact rep_F HH.out HLL.out HSb.out HBD.out (by omega) (by omega) (by omega) (show w.heap.size + 1 + 1 < w11.heap.size by omega) hgl11 HB5.out (own_base HOWN.out (by omega)) hil HL5.out (putV_F HSI.out hst HYL.out)
    · have hyl := hyL hst
      obtain ⟨hil, -⟩ := HLT.out.1 hst
      obtain ⟨us, vs, hul, hvl, hrL, hLL, hrF, hFF⟩ := HH.out.rows
      obtain ⟨ad2, hA2, hSad, hcL⟩ := hrL (by simp; omega)
      simp only at hA2
      subst hA2
      rw [hst] at r2
      have had2 : ad2.block < w.heap.size := HSb.out _ hSad
      have b3 := HBOX9.out.cell (show 3 < 5 by decide)
      have f3 := HBOX9.out.frozen 3
      simp only [hdAt, Hd.cells, List.getD_cons_succ, List.getD_cons_zero] at b3
      have KC := Lib.hid (cloneV us ad2 l.length lc w9 hul.symm (by omega) hll (fun j v hv jj c hc => by
        rw [HB9.out.cell (by rw [adb]; exact had2)]
        exact hcL j v.cells (by simp [hv]) jj c hc))
      have HLL := Lib.hid hLL
      have HYL := Lib.hid hyl
      clear hcL hLL hFF hrF hrL hyl hyL hyF
      go_wp2_with fail
      refine KC.out.mono ?_
      rintro e w10 ⟨g, cap, rfl, hown, hb10⟩
      have hs10 := hb10.size
      have hgl := own_lo hown (g := g) rfl
      have box10 := rowIs_below HBOX9.out hb10 (by omega)
      have c3 := box10.cell (show 3 < 5 by decide)
      have g3 := box10.frozen 3
      simp only [hdAt, Hd.cells, List.getD_cons_succ, List.getD_cons_zero] at c3
      clear b3 f3 KC
      go_upto_region 6 with fail
      have hgN : g ≠ w.heap.size := by omega
      have box11 : (w10.setCell ⟨w.heap.size, 3, none⟩ (.slice (some ⟨g, 0, none⟩) l.length cap)).rowIs w.heap.size 25 5 (hdAt ⟨hk, hnn, hss, some ⟨g, 0, none⟩, l.length, cap, F, f.length, fc⟩) := by
        refine (box10.set 3 _).congr (fun j hj => ?_)
        match j, hj with
        | 0, _ => rfl
        | 1, _ => rfl
        | 2, _ => rfl
        | 3, _ => rfl
        | 4, _ => rfl
      have own11 : (w10.setCell ⟨w.heap.size, 3, none⟩ (.slice (some ⟨g, 0, none⟩) l.length cap)).ownsRow w9.heap.size 25 5 (.slice (some ⟨g, 0, none⟩) l.length cap) l.length (us.flatMap Hd.cells) := own_block hown (fun b hb => Below.heap_setCell _ _ _ _ (by simp [Value.ownBlock] at hb; show b ≠ w.heap.size; omega))
      have blk11 : ∀ b, b < w9.heap.size → b ≠ w.heap.size → (w10.setCell ⟨w.heap.size, 3, none⟩ (.slice (some ⟨g, 0, none⟩) l.length cap)).heap[b]? = w9.heap[b]? := fun b h1 h2 => (Below.heap_setCell _ _ _ _ h2).trans (hb10.block b h1)
      have bel11 : Below w.heap.size w (w10.setCell ⟨w.heap.size, 3, none⟩ (.slice (some ⟨g, 0, none⟩) l.length cap)) := (HB9.out.trans (hb10.mono (by omega))).setCell (Nat.le_refl _) _
      have sz11 : (w10.setCell ⟨w.heap.size, 3, none⟩ (.slice (some ⟨g, 0, none⟩) l.length cap)).heap.size = w10.heap.size := by simp
      generalize w10.setCell ⟨w.heap.size, 3, none⟩ (.slice (some ⟨g, 0, none⟩) l.length cap) = w11 at box11 own11 blk11 bel11 sz11 ⊢
      have HBOX := Lib.hid box11
      have HOWN := Lib.hid own11
      have HBLK := Lib.hid blk11
      have HBEL := Lib.hid bel11
      have HRES := Lib.hid (show w11.rowIs (w.heap.size + 1 + 1) 25 5 zeroRes from HRES9.out.of_block (blk11 _ (by omega) (by omega)))
      have HBXX := Lib.hid (show w11.rowIs (w.heap.size + 1) 25 5 (hdAt hx) from HBXX9.out.of_block (blk11 _ (by omega) (by omega)))
      clear box11 own11 blk11 bel11 hown hb10 box10 c3 g3 HRES9 HBXX9 HBOX9
      obtain ⟨u, hu, hLu⟩ := LiesL_at HLL.out HYL.out
      have hrow11 := row_of_own (S := fun _ => True) Hd.cells us cells_len HOWN.out (fun _ _ => trivial) (.inr (by decide))
      obtain ⟨adx, ex, _, hcx⟩ := hrow11 (by simp; omega)
      obtain rfl : adx = ⟨g, 0, none⟩ := by injection ex with ex; exact ex.symm
      have hce : ∀ j v, u.cells[j]? = some v → w11.cell? ⟨g, i * 5 + j, none⟩ = some v := fun j v hv => by
        have := hcx i u.cells (by simp [hu]) j v hv
        rwa [add0] at this
      have k0 := hce 0 _ rfl
      have k1 := hce 1 _ rfl
      have k2 := hce 2 _ rfl
      have k3 := hce 3 _ rfl
      have k4 := hce 4 _ rfl
      rw [Nat.add_zero] at k0
      have b3 := HBOX.out.cell (show 3 < 5 by decide)
      have x0 := HBXX.out.cell (show 0 < 5 by decide)
      have x1 := HBXX.out.cell (show 1 < 5 by decide)
      have x2 := HBXX.out.cell (show 2 < 5 by decide)
      have x3 := HBXX.out.cell (show 3 < 5 by decide)
      have x4 := HBXX.out.cell (show 4 < 5 by decide)
      simp only [hdAt, Hd.cells, List.getD_cons_succ, List.getD_cons_zero] at b3 x0 x1 x2 x3 x4
      have HU := Lib.hid hu
      have HLu := Lib.hid hLu
      clear hcx hrow11 ex hu hLu
      have hcjl : (i : Int) < (l.length : Int) := by omega
      have HK := Lib.hid hce
      clear hce
      have hgl11 : g < w11.heap.size := by omega
      have hfr : ∀ o, w11.frozen? ⟨g, o, none⟩ = false := fun o => by
        rcases HOWN.out.2 with ⟨e, _⟩ | ⟨g2, cap2, cur, hv, _, hh, _⟩
        · cases e
        · injection hv with e1
          injection e1 with e1
          injection e1 with e1
          subst e1
          simp [World.frozen?, hh]
      have HFR := Lib.hid hfr
      clear hfr
      have HS0 : Hid (S6 w.heap.size 3 (.slice (some ⟨g, 0, none⟩) l.length cap) (w.heap.size + 1) hx w11.drew) := Lib.hid ⟨b3, x0, x1, x2, x3, x4⟩
      have HS1 := Lib.hid (show ∀ w5, Below w11.drew.heap.size w11.drew w5 → S6 w.heap.size 3 (.slice (some ⟨g, 0, none⟩) l.length cap) (w.heap.size + 1) hx w5 from fun w5 hb => S6.blk HS0.out (hb.block _ (show w.heap.size < w11.heap.size by omega)) (hb.block _ (show w.heap.size + 1 < w11.heap.size by omega)))
      have HS2 := Lib.hid (show ∀ w5 (v : Hd), Below w11.drew.heap.size w11.drew w5 → S6 w.heap.size 3 (.slice (some ⟨g, 0, none⟩) l.length cap) (w.heap.size + 1) hx (putL w5 g (i * 5) v) from fun w5 v hb => S6.blk (HS1.out w5 hb) (putL_blk (by omega)) (putL_blk (by omega)))
      have HRR := Lib.hid (show ∀ w5, Below w11.drew.heap.size w11.drew w5 → w5.rowIs (w.heap.size + 1 + 1) 25 5 zeroRes ∧ w5.rowIs w.heap.size 25 5 (hdAt ⟨hk, hnn, hss, some ⟨g, 0, none⟩, l.length, cap, F, f.length, fc⟩) from fun w5 hb => ⟨rowIs_below HRES.out.drew hb (show w.heap.size + 1 + 1 < w11.heap.size by omega), rowIs_below HBOX.out.drew hb (show w.heap.size < w11.heap.size by omega)⟩)
      have HKK := Lib.hid (show ∀ w5 o, Below w11.drew.heap.size w11.drew w5 → w5.cell? ⟨g, o, none⟩ = w11.cell? ⟨g, o, none⟩ ∧ w5.frozen? ⟨g, o, none⟩ = false from fun w5 o hb => ⟨hb.cell (p := ⟨g, o, none⟩) hgl11, (hb.frozen (p := ⟨g, o, none⟩) hgl11).trans (HFR.out o)⟩)
      have HBD : Hid (Below w.heap.size w w11.drew) := Lib.hid (HBEL.out.trans ((Below.refl _ _).drew))
      have HXC := Lib.hid (Nat.le_trans (cnt_sub (k := hk) (n := n) (t := t) (l := l) (ks := ks) (f := f) (.inl (List.mem_of_getElem? HYL.out))) HCN.out)
      have hld : ldE = Op.load 25 (Operand.tmp 31) := rfl
      by_cases hc1 : c = 1
      · subst hc1
        obtain rfl : m = 1 := by omega
        have HCL := Lib.hid (IH.out y u w11.drew (some ad) 0 0 (fun b hb => by have := HSb.out b hb; show b < w11.heap.size; omega) (HLu.out.below HBD.out (Nat.le_refl _)) (HXX.out.below HBD.out (Nat.le_refl _)) (by have : p = [] := List.length_eq_zero_iff.1 (by have := HPL.out; omega); rw [this]; exact PathAt.nil _ _) (by have := HPL.out; omega) (Nat.le_refl _) HXC.out HGY.out)
        go_wp2_with fail
        rw [show Op.load 25 (Operand.tmp 31) = ldE from rfl]
        go_region_held3 (fun w' => w'.cell? ⟨w.heap.size, 3, none⟩ = some (.slice (some ⟨g, 0, none⟩) l.length cap) ∧ w'.cell? ⟨w.heap.size + 1, 0, none⟩ = some (.int .i64 hx.k) ∧ w'.cell? ⟨w.heap.size + 1, 1, none⟩ = some (.int .i64 hx.n) ∧ w'.cell? ⟨w.heap.size + 1, 2, none⟩ = some (.string hx.s) ∧ w'.cell? ⟨w.heap.size + 1, 3, none⟩ = some (.slice hx.A hx.la hx.lc) ∧ w'.cell? ⟨w.heap.size + 1, 4, none⟩ = some (.slice hx.F hx.lf hx.fc))
          (first
            | (with_reducible exact HS2.out _ _ hb5)
            | (have h7 := HS1.out _ hb5; with_reducible exact h7)
            | (have h7 := HS0.out; with_reducible exact h7)
            | fail)
          (first
            | (go_at_call 112; refine HCL.out.mono ?_; rintro e w5 ⟨h', rfl, hl5, hb5⟩; have y0 := (HKK.out _ (i * 5) hb5).1.trans k0; have yf0 := (HKK.out _ (i * 5) hb5).2; have y1 := (HKK.out _ (i * 5 + 1) hb5).1.trans k1; have yf1 := (HKK.out _ (i * 5 + 1) hb5).2; have y2 := (HKK.out _ (i * 5 + 2) hb5).1.trans k2; have yf2 := (HKK.out _ (i * 5 + 2) hb5).2; have y3 := (HKK.out _ (i * 5 + 3) hb5).1.trans k3; have yf3 := (HKK.out _ (i * 5 + 3) hb5).2; have y4 := (HKK.out _ (i * 5 + 4) hb5).1.trans k4; have yf4 := (HKK.out _ (i * 5 + 4) hb5).2; have z0 := (HRR.out _ hb5).1.cell (show 0 < 5 by decide); have g0 := (HRR.out _ hb5).1.frozen 0; have c0 := (HRR.out _ hb5).2.cell (show 0 < 5 by decide); have z1 := (HRR.out _ hb5).1.cell (show 1 < 5 by decide); have g1 := (HRR.out _ hb5).1.frozen 1; have c1 := (HRR.out _ hb5).2.cell (show 1 < 5 by decide); have z2 := (HRR.out _ hb5).1.cell (show 2 < 5 by decide); have g2 := (HRR.out _ hb5).1.frozen 2; have c2 := (HRR.out _ hb5).2.cell (show 2 < 5 by decide); have z3 := (HRR.out _ hb5).1.cell (show 3 < 5 by decide); have g3 := (HRR.out _ hb5).1.frozen 3; have c3 := (HRR.out _ hb5).2.cell (show 3 < 5 by decide); have z4 := (HRR.out _ hb5).1.cell (show 4 < 5 by decide); have g4 := (HRR.out _ hb5).1.frozen 4; have c4 := (HRR.out _ hb5).2.cell (show 4 < 5 by decide); have HL5 := Lib.hid hl5; have HB5 := Lib.hid hb5; clear hl5; simp only [hdAt, Hd.cells, List.getD_cons_succ, List.getD_cons_zero] at z0 z1 z2 z3 z4 c0 c1 c2 c3 c4)
            | fail)
        all_goals go_wp2_with fail
        all_goals refine bodyPost_ret (v := .agg #[.int .i64 hk, .int .i64 hnn, .string hss, .slice (some ⟨g, 0, none⟩) l.length cap, .slice F f.length fc]) (by simp [results, Try.results112, go_sem, z0, z1, z2, z3, z4]; try rfl) rfl ?_
        all_goals exact rep_L HH.out HLL.out HSb.out HBD.out (by omega) (by omega) (by omega) (show w.heap.size + 1 + 1 < w11.heap.size by omega) hgl11 HB5.out (own_base HOWN.out (by omega)) hil HL5.out (putV_L HSI.out hst HYL.out)
      · have HCL := Lib.hid (IH.out y u w11.drew (some ⟨ad.block, ad.off + 3, none⟩) (m - 1) (c - 1) (fun b hb => by have := HSb.out b hb; show b < w11.heap.size; omega) (HLu.out.below HBD.out (Nat.le_refl _)) (HXX.out.below HBD.out (Nat.le_refl _)) (by have h := HTL.out.below HBD.out (Nat.le_refl _); rwa [add_pos _ (by decide)] at h) (by have := HPL.out; omega) (by omega) HXC.out HGY.out)
        go_wp2_with fail
        rw [show Op.load 25 (Operand.tmp 31) = ldE from rfl]
        go_region_held3 (fun w' => w'.cell? ⟨w.heap.size, 3, none⟩ = some (.slice (some ⟨g, 0, none⟩) l.length cap) ∧ w'.cell? ⟨w.heap.size + 1, 0, none⟩ = some (.int .i64 hx.k) ∧ w'.cell? ⟨w.heap.size + 1, 1, none⟩ = some (.int .i64 hx.n) ∧ w'.cell? ⟨w.heap.size + 1, 2, none⟩ = some (.string hx.s) ∧ w'.cell? ⟨w.heap.size + 1, 3, none⟩ = some (.slice hx.A hx.la hx.lc) ∧ w'.cell? ⟨w.heap.size + 1, 4, none⟩ = some (.slice hx.F hx.lf hx.fc))
          (first
            | (with_reducible exact HS2.out _ _ hb5)
            | (have h7 := HS1.out _ hb5; with_reducible exact h7)
            | (have h7 := HS0.out; with_reducible exact h7)
            | fail)
          (first
            | (go_at_call 112; refine HCL.out.mono ?_; rintro e w5 ⟨h', rfl, hl5, hb5⟩; have y0 := (HKK.out _ (i * 5) hb5).1.trans k0; have yf0 := (HKK.out _ (i * 5) hb5).2; have y1 := (HKK.out _ (i * 5 + 1) hb5).1.trans k1; have yf1 := (HKK.out _ (i * 5 + 1) hb5).2; have y2 := (HKK.out _ (i * 5 + 2) hb5).1.trans k2; have yf2 := (HKK.out _ (i * 5 + 2) hb5).2; have y3 := (HKK.out _ (i * 5 + 3) hb5).1.trans k3; have yf3 := (HKK.out _ (i * 5 + 3) hb5).2; have y4 := (HKK.out _ (i * 5 + 4) hb5).1.trans k4; have yf4 := (HKK.out _ (i * 5 + 4) hb5).2; have z0 := (HRR.out _ hb5).1.cell (show 0 < 5 by decide); have g0 := (HRR.out _ hb5).1.frozen 0; have c0 := (HRR.out _ hb5).2.cell (show 0 < 5 by decide); have z1 := (HRR.out _ hb5).1.cell (show 1 < 5 by decide); have g1 := (HRR.out _ hb5).1.frozen 1; have c1 := (HRR.out _ hb5).2.cell (show 1 < 5 by decide); have z2 := (HRR.out _ hb5).1.cell (show 2 < 5 by decide); have g2 := (HRR.out _ hb5).1.frozen 2; have c2 := (HRR.out _ hb5).2.cell (show 2 < 5 by decide); have z3 := (HRR.out _ hb5).1.cell (show 3 < 5 by decide); have g3 := (HRR.out _ hb5).1.frozen 3; have c3 := (HRR.out _ hb5).2.cell (show 3 < 5 by decide); have z4 := (HRR.out _ hb5).1.cell (show 4 < 5 by decide); have g4 := (HRR.out _ hb5).1.frozen 4; have c4 := (HRR.out _ hb5).2.cell (show 4 < 5 by decide); have HL5 := Lib.hid hl5; have HB5 := Lib.hid hb5; clear hl5; simp only [hdAt, Hd.cells, List.getD_cons_succ, List.getD_cons_zero] at z0 z1 z2 z3 z4 c0 c1 c2 c3 c4)
            | fail)
        all_goals go_wp2_with fail
        all_goals refine bodyPost_ret (v := .agg #[.int .i64 hk, .int .i64 hnn, .string hss, .slice (some ⟨g, 0, none⟩) l.length cap, .slice F f.length fc]) (by simp [results, Try.results112, go_sem, z0, z1, z2, z3, z4]; try rfl) rfl ?_
        all_goals exact rep_L HH.out HLL.out HSb.out HBD.out (by omega) (by omega) (by omega) (show w.heap.size + 1 + 1 < w11.heap.size by omega) hgl11 HB5.out (own_base HOWN.out (by omega)) hil HL5.out (putV_L HSI.out hst HYL.out)
end Go.Proofs.Ytmdlcalnncncjaa
