/- Several of the texts that this claim leans on, one behind the other. -/
import Derived.Test.YtmdlcalnncncjaaPPut
import Derived.Deep.RegionHeld3
import Derived.Deep.CutRange
import Derived.Test.YtmdlcalnncncjaaTSam
import Derived.Test.YtmdlcalnncncjaaTNewL
import Derived.Test.YtmdlcalnncncjaaTWithPr
import Derived.Deep.AppendSrc
import Derived.Deep.AppendLies
import Derived.Test.YtmdlcalnncncjaaPCln
import Derived.Lib.AppendZerosOnto
import Derived.Lib.AppendZeros
import Derived.Test.YtmdlcalnncncjaaTGet
import Derived.Deep.TreeCalls
import Derived.Test.YtmdlcalnncncjaaTPlace
import Derived.Test.YtmdlcalnncncjaaTWithRef
import Derived.Test.YtmdlcalnncncjaaPFind
import Derived.Sort.Lot0
import Derived.Sort.LotA
/- path.replaced. -/
set_option linter.unusedVariables false
set_option linter.unusedSimpArgs false
namespace Go.Proofs.Ytmdlcalnncncjaa
open Go.RowKit
/-- What replaced answers. -/
def RepR (S : Nat → Prop) (b : Va) (w : World) (e : Ending) (w' : World) : Prop := ∃ h', e = .returned (.agg #[.int .i64 h'.k, .int .i64 h'.n, .string h'.s, .slice h'.A h'.la h'.lc, .slice h'.F h'.lf h'.fc]) ∧ Lies w' (fun b => S b ∨ w.heap.size ≤ b) b h' ∧ Below w.heap.size w w'
/-- What is answered, written into the result's block. -/
abbrev resW (w : World) (R : Nat) (u : Hd) : World := ((((w.setCell ⟨R, 0, none⟩ (.int .i64 u.k)).setCell ⟨R, 1, none⟩ (.int .i64 u.n)).setCell ⟨R, 2, none⟩ (.string u.s)).setCell ⟨R, 3, none⟩ (.slice u.A u.la u.lc)).setCell ⟨R, 4, none⟩ (.slice u.F u.lf u.fc)
theorem putL_below {B g o : Nat} {w w' : World} {u : Hd} (h : Below B w w') (hg : B ≤ g) : Below B w (putL w' g o u) := ((((h.setCell hg _).setCell hg _).setCell hg _).setCell hg _).setCell hg _
theorem put5_below {B g o : Nat} {w w' : World} {u : Hd} (h : Below B w w') (hg : B ≤ g) : Below B w (put5 w' g o u) := ((((h.setCell hg _).setCell hg _).setCell hg _).setCell hg _).setCell hg _
theorem rep_L {S : Nat → Prop} {k n : Int} {t : ByteArray} {l : List Va} {ks : List ByteArray} {f : List Va} {h : Hd} {us : List Hd} {w w11 w5 : World} {R g i cap : Nat} {y' b' : Va} {u' : Hd} (H : Lies w S (.mk k n t l ks f) h) (hus : LiesL w S l us) (hSb : ∀ b, S b → b < w.heap.size) (hbel : Below w.heap.size w w11)
    (hg : w.heap.size ≤ g) (hgR : g ≠ R) (hR : w.heap.size ≤ R) (hR11 : R < w11.heap.size) (hg11 : g < w11.heap.size) (hb5 : Below w11.heap.size w11 w5) (hown : w11.ownsRow w.heap.size 25 5 (.slice (some ⟨g, 0, none⟩) l.length cap) l.length (us.flatMap Hd.cells)) (hi : i < l.length)
    (hy : Lies w5 (fun b => S b ∨ w11.heap.size ≤ b) y' u') (hv : b' = .mk k n t (l.set i y') ks f) :
    RepR S b' w (.returned (.agg #[.int .i64 h.k, .int .i64 h.n, .string h.s, .slice (some ⟨g, 0, none⟩) l.length cap, .slice h.F h.lf h.fc])) (resW (putL w5 g (i * 5) u') R ⟨h.k, h.n, h.s, some ⟨g, 0, none⟩, l.length, cap, h.F, h.lf, h.fc⟩) := by
  subst hv
  have hs11 := hbel.size
  have hbw5 : Below w.heap.size w w5 := hbel.trans (hb5.mono hs11)
  have hblk : ∀ b, b ≠ R → b ≠ g → (resW (putL w5 g (i * 5) u') R ⟨h.k, h.n, h.s, some ⟨g, 0, none⟩, l.length, cap, h.F, h.lf, h.fc⟩).heap[b]? = w5.heap[b]? := fun b h1 h2 => (res_set (w := w) b h1).trans (putL_blk h2)
  refine ⟨⟨h.k, h.n, h.s, some ⟨g, 0, none⟩, l.length, cap, h.F, h.lf, h.fc⟩, rfl, ?_, res_below (putL_below hbw5 hg) hR⟩
  refine lies_setL (wc := w5) H hus (fun b hb => .inl hb) (fun b hb => ⟨hSb b hb, ?_⟩) (.inr hg) hi (own_below hown hb5 (Nat.le_refl _)) (fun p => World.cell?_of_block (a := ⟨g, p, none⟩) (res_set (w := w) g hgR)) ?_
  · have := hSb b hb
    rw [hblk b (by omega) (by omega)]
    exact hbw5.block b this
  · refine Lies.keep (fun q hq _ => World.cell?_of_block (hblk _ ?_ ?_)) (fun b hb _ => ?_) _ _ hy
    · rcases hq with hq | hq
      · have := hSb _ hq; omega
      · omega
    · rcases hq with hq | hq
      · have := hSb _ hq; omega
      · omega
    · rcases hb with hb | hb
      · exact .inl hb
      · exact .inr (by omega)
theorem rep_F {S : Nat → Prop} {k n : Int} {t : ByteArray} {l : List Va} {ks : List ByteArray} {f : List Va} {h : Hd} {vs : List Hd} {w w11 w5 : World} {R g i cap : Nat} {y' b' : Va} {u' : Hd} (H : Lies w S (.mk k n t l ks f) h) (hvs : LiesL w S f vs) (hSb : ∀ b, S b → b < w.heap.size) (hbel : Below w.heap.size w w11)
    (hg : w.heap.size ≤ g) (hgR : g ≠ R) (hR : w.heap.size ≤ R) (hR11 : R < w11.heap.size) (hg11 : g < w11.heap.size) (hb5 : Below w11.heap.size w11 w5) (hown : w11.ownsRow w.heap.size 36 6 (.slice (some ⟨g, 0, none⟩) f.length cap) f.length ((ks.zip vs).flatMap pcells)) (hi : i < f.length)
    (hy : Lies w5 (fun b => S b ∨ w11.heap.size ≤ b) y' u') (hv : b' = .mk k n t l ks (f.set i y')) :
    RepR S b' w (.returned (.agg #[.int .i64 h.k, .int .i64 h.n, .string h.s, .slice h.A h.la h.lc, .slice (some ⟨g, 0, none⟩) f.length cap])) (resW (put5 w5 g (i * 6) u') R ⟨h.k, h.n, h.s, h.A, h.la, h.lc, some ⟨g, 0, none⟩, f.length, cap⟩) := by
  subst hv
  have hs11 := hbel.size
  have hbw5 : Below w.heap.size w w5 := hbel.trans (hb5.mono hs11)
  have hblk : ∀ b, b ≠ R → b ≠ g → (resW (put5 w5 g (i * 6) u') R ⟨h.k, h.n, h.s, h.A, h.la, h.lc, some ⟨g, 0, none⟩, f.length, cap⟩).heap[b]? = w5.heap[b]? := fun b h1 h2 => (res_set (w := w) b h1).trans (put5_blk h2)
  refine ⟨⟨h.k, h.n, h.s, h.A, h.la, h.lc, some ⟨g, 0, none⟩, f.length, cap⟩, rfl, ?_, res_below (put5_below hbw5 hg) hR⟩
  refine lies_setF (wc := w5) H hvs (fun b hb => .inl hb) (fun b hb => ⟨hSb b hb, ?_⟩) (.inr hg) hi (own_below hown hb5 (Nat.le_refl _)) (fun p => World.cell?_of_block (a := ⟨g, p, none⟩) (res_set (w := w) g hgR)) ?_
  · have := hSb b hb
    rw [hblk b (by omega) (by omega)]
    exact hbw5.block b this
  · refine Lies.keep (fun q hq _ => World.cell?_of_block (hblk _ ?_ ?_)) (fun b hb _ => ?_) _ _ hy
    · rcases hq with hq | hq
      · have := hSb _ hq; omega
      · omega
    · rcases hq with hq | hq
      · have := hSb _ hq; omega
      · omega
    · rcases hb with hb | hb
      · exact .inl hb
      · exact .inr (by omega)
/-- The load of the element, under a name. -/
def ldE : Op := Op.load 25 (Operand.tmp 31)
def ldEF : Op := Op.load 25 (Operand.tmp 50)
/-- A slice of the value's box, and what is put. -/
abbrev S6 (N o : Nat) (v : Value) (M : Nat) (x : Hd) (w : World) : Prop := w.cell? ⟨N, o, none⟩ = some v ∧ w.cell? ⟨M, 0, none⟩ = some (.int .i64 x.k) ∧ w.cell? ⟨M, 1, none⟩ = some (.int .i64 x.n) ∧ w.cell? ⟨M, 2, none⟩ = some (.string x.s) ∧ w.cell? ⟨M, 3, none⟩ = some (.slice x.A x.la x.lc) ∧ w.cell? ⟨M, 4, none⟩ = some (.slice x.F x.lf x.fc)
theorem S6.blk {N o M : Nat} {v : Value} {x : Hd} {w w' : World} (h : S6 N o v M x w) (hN : w'.heap[N]? = w.heap[N]?) (hM : w'.heap[M]? = w.heap[M]?) : S6 N o v M x w' :=
  ⟨(World.cell?_of_block (a := ⟨N, o, none⟩) hN).trans h.1, (World.cell?_of_block (a := ⟨M, 0, none⟩) hM).trans h.2.1, (World.cell?_of_block (a := ⟨M, 1, none⟩) hM).trans h.2.2.1, (World.cell?_of_block (a := ⟨M, 2, none⟩) hM).trans h.2.2.2.1, (World.cell?_of_block (a := ⟨M, 3, none⟩) hM).trans h.2.2.2.2.1, (World.cell?_of_block (a := ⟨M, 4, none⟩) hM).trans h.2.2.2.2.2⟩
theorem three_allocs (w : World) (o1 o2 o3 : Obj) : Below w.heap.size w (((w.alloc o1).alloc o2).alloc o3) := ((((Below.refl _ _).alloc (Nat.le_refl _) _).alloc (by simp) _).alloc (by simp; omega) _)
set_option maxHeartbeats 16000000 in
set_option maxRecDepth 100000 in
theorem replaced_any (S : Nat → Prop) (x : Va) (hx : Hd) (p : List St) : ∀ (a : Va) (h : Hd) (w : World) (A : Option Addr) (m c : Nat), (∀ b, S b → b < w.heap.size) → Lies w S a h → Lies w S x hx → PathAt w A p → (∀ s ∈ p, StR s) → m = p.length → m ≤ c → m ≤ 1000 → a.cnt ≤ 1000 → (goV a p).isSome = true →
    Calls Try.prog 112 #[h.val, .slice A m c, hx.val] w fun e w' => RepR S (putV a p x) w e w' := by
  induction p with
  | nil =>
    intro a h w A m c hSb H HX hA hR hm hc hp hcn hgo
    obtain rfl : m = 0 := hm
    have HXX := Lib.hid HX
    have HB3 := Lib.hid (three_allocs w (Obj.cells #[.int .i64 h.k, .int .i64 h.n, .string h.s, .slice h.A h.la h.lc, .slice h.F h.lf h.fc] 25) (Obj.cells #[.int .i64 hx.k, .int .i64 hx.n, .string hx.s, .slice hx.A hx.la hx.lc, .slice hx.F hx.lf hx.fc] 25) (Obj.cells #[.int .i64 hx.k, .int .i64 hx.n, .string hx.s, .slice hx.A hx.la hx.lc, .slice hx.F hx.lf hx.fc] 25))
    have hpv : putV a [] x = x := by cases a; rfl
    rw [hpv]
    clear H HX hA hR hc hp hcn hgo hSb hpv
    unfold Hd.val at *
    go_enter Try.func112, Try.ntmps112
    go_wp2_with fail
    refine bodyPost_ret (v := .agg #[.int .i64 hx.k, .int .i64 hx.n, .string hx.s, .slice hx.A hx.la hx.lc, .slice hx.F hx.lf hx.fc]) (by simp [results, Try.results112, go_sem]; try rfl) rfl ?_
    exact ⟨hx, rfl, Lies.keep (fun q _ hq => HB3.out.cell hq) (fun b hb _ => .inl hb) _ _ HXX.out, HB3.out⟩
  | cons s p ih =>
    intro a h w A m c hSb H HX hA hR hm hc hp hcn hgo
    obtain ⟨ad, rfl, hbl, hat, hok⟩ := hA 0 s rfl
    have e0 : ad.add (0 * 3) = ad := by simp [Addr.add]
    rw [e0] at hat hbl
    have HSR := Lib.hid (hR s (by simp))
    have HTL := Lib.hid hA.tail
    have hm1 : m = p.length + 1 := by simpa using hm
    have HPL := Lib.hid hm1
    have HSb := Lib.hid hSb
    have hm0i : (1 : Int) ≤ (m : Int) := by omega
    have hm0j : (0 : Int) < (m : Int) := by omega
    have hm0k : 0 < m := by omega
    have hm00 : ((m : Int) == 0) = false := by simp; omega
    obtain ⟨k, n, t, l, ks, f⟩ := a
    obtain ⟨bb, hbb⟩ := Option.isSome_iff_exists.1 hgo
    obtain ⟨i, y, hsi, hyL, hyF, hgy⟩ := goV_cons hbb
    have HGY : Hid ((goV y p).isSome = true) := Lib.hid (by rw [hgy]; rfl)
    have IH := Lib.hid (fun (y : Va) (u : Hd) (W : World) (A' : Option Addr) (m' c' : Nat) (h0 : ∀ b, S b → b < W.heap.size) (h1 : Lies W S y u) (h2 : Lies W S x hx) (h3 : PathAt W A' p) (h4 : m' = p.length) (h5 : m' ≤ c') (h6 : y.cnt ≤ 1000) (h7 : (goV y p).isSome = true) => ih y u W A' m' c' h0 h1 h2 h3 (fun t ht => hR t (by simp [ht])) h4 h5 (by omega) h6 h7)
    have HH := Lib.hid H
    have HXX := Lib.hid HX
    simp only [Lies] at H
    obtain ⟨⟨e1, e2, e3, e4, e5, e6⟩, -, -⟩ := H
    obtain ⟨hk, hnn, hss, HA, la, lc, F, lf, fc⟩ := h
    simp only at e1 e4 e5
    subst e1 e4
    have hlf : lf = f.length := e5
    subst hlf
    have HE6 := Lib.hid e6
    have HCN := Lib.hid hcn
    have hll : l.length ≤ 1000 := by have := len_le_cntL l; simp only [Va.cnt] at hcn; omega
    have hfl : f.length ≤ 1000 := by have := len_le_cntL f; simp only [Va.cnt] at hcn; omega
    have HLT := Lib.hid (subI_lt e6 HSR.out hsi)
    have HSI := Lib.hid hsi
    unfold Hd.val at *
    simp only
    -- the world behind the three blocks
    obtain ⟨wd, hwd⟩ : ∃ wd, wd = ((w.alloc (Obj.cells #[.int .i64 hk, .int .i64 hnn, .string hss, .slice HA l.length lc, .slice F f.length fc] 25)).alloc (Obj.cells #[.int .i64 hx.k, .int .i64 hx.n, .string hx.s, .slice hx.A hx.la hx.lc, .slice hx.F hx.lf hx.fc] 25)).alloc (Obj.cells #[.int .i64 0, .int .i64 0, .string { data := #[] }, .slice none 0 0, .slice none 0 0] 25) := ⟨_, rfl⟩
    have hb2 : Below w.heap.size w wd := by rw [hwd]; exact three_allocs _ _ _ _
    have hsz : wd.heap.size = w.heap.size + 3 := by rw [hwd]; simp
    have hbox : wd.rowIs w.heap.size 25 5 (hdAt ⟨hk, hnn, hss, HA, l.length, lc, F, f.length, fc⟩) := by
      rw [hwd]
      refine hdAt_row ?_
      rw [Below.heap_alloc _ _ _ (by simp; omega), Below.heap_alloc _ _ _ (by simp)]
      exact heap_alloc_new _ _
    have hbxx : wd.rowIs (w.heap.size + 1) 25 5 (hdAt hx) := by
      rw [hwd]
      refine hdAt_row ?_
      rw [Below.heap_alloc _ _ _ (by simp)]
      have h9 := heap_alloc_new (w.alloc (Obj.cells #[.int .i64 hk, .int .i64 hnn, .string hss, .slice HA l.length lc, .slice F f.length fc] 25)) (Obj.cells #[.int .i64 hx.k, .int .i64 hx.n, .string hx.s, .slice hx.A hx.la hx.lc, .slice hx.F hx.lf hx.fc] 25)
      rwa [World.size_alloc] at h9
    have hres : wd.rowIs (w.heap.size + 1 + 1) 25 5 zeroRes := by
      rw [hwd]
      refine hdAt_row (h := zeroHd) ?_
      have h9 := heap_alloc_new ((w.alloc (Obj.cells #[.int .i64 hk, .int .i64 hnn, .string hss, .slice HA l.length lc, .slice F f.length fc] 25)).alloc (Obj.cells #[.int .i64 hx.k, .int .i64 hx.n, .string hx.s, .slice hx.A hx.la hx.lc, .slice hx.F hx.lf hx.fc] 25)) (Obj.cells #[.int .i64 0, .int .i64 0, .string { data := #[] }, .slice none 0 0, .slice none 0 0] 25)
      rwa [World.size_alloc, World.size_alloc] at h9
    have HWD := Lib.hid hwd
    clear hA hR e2 e3 e5 e6 hok e0 hcn hm hm1 ih hgo hbb hwd hSb HX hgy
    go_enter Try.func112, Try.ntmps112
    go_wp2_with fail
    rw [← HWD.out]
    clear HWD
    obtain ⟨q0, q1, q2⟩ := hat.below hb2 hbl
    have hbld : ad.block < wd.heap.size := by omega
    have hNd : w.heap.size < wd.heap.size := by omega
    have b0 := hbox.cell (show 0 < 5 by decide)
    have b1 := hbox.cell (show 1 < 5 by decide)
    have b2 := hbox.cell (show 2 < 5 by decide)
    have b3 := hbox.cell (show 3 < 5 by decide)
    have b4 := hbox.cell (show 4 < 5 by decide)
    simp only [hdAt, Hd.cells, List.getD_cons_succ, List.getD_cons_zero] at b0 b1 b2 b3 b4
    have Q0 : ∀ x : BlwBy wd, x.now.cell? ad = some (.string s.k) := fun x => x.cellA hbld q0
    have Q1 : ∀ x : BlwBy wd, x.now.cell? ⟨ad.block, ad.off + 1, none⟩ = some (.int .i64 s.a) := fun x => x.cellA (a := ⟨ad.block, ad.off + 1, none⟩) hbld q1
    have Q2 : ∀ x : BlwBy wd, x.now.cell? ⟨ad.block, ad.off + 2, none⟩ = some (.bool s.i) := fun x => x.cellA (a := ⟨ad.block, ad.off + 2, none⟩) hbld q2
    have B0 : ∀ x : BlwBy wd, x.now.cell? ⟨w.heap.size, 0, none⟩ = some (.int .i64 hk) := fun x => x.cell hNd b0
    have B1 : ∀ x : BlwBy wd, x.now.cell? ⟨w.heap.size, 1, none⟩ = some (.int .i64 hnn) := fun x => x.cell hNd b1
    have B2 : ∀ x : BlwBy wd, x.now.cell? ⟨w.heap.size, 2, none⟩ = some (.string hss) := fun x => x.cell hNd b2
    have B3 : ∀ x : BlwBy wd, x.now.cell? ⟨w.heap.size, 3, none⟩ = some (.slice HA l.length lc) := fun x => x.cell hNd b3
    have B4 : ∀ x : BlwBy wd, x.now.cell? ⟨w.heap.size, 4, none⟩ = some (.slice F f.length fc) := fun x => x.cell hNd b4
    have HHd := Lib.hid (HH.out.below hb2 (Nat.le_refl _))
    have KM : Hid (∀ x : BlwBy wd, Calls Try.prog 124 #[.agg #[.int .i64 hk, .int .i64 hnn, .string hss, .slice HA l.length lc, .slice F f.length fc], .agg #[.string s.k, .int .i64 s.a, .bool s.i]] x.now fun e w'' => e = .returned (.int .i64 (mI (subI (.mk hk n t l ks f) s))) ∧ ∃ q : BlwBy wd, w'' = q.now) := Lib.hid (fun x => Calls.below_of (member_any (.mk hk n t l ks f) S ⟨hk, hnn, hss, HA, l.length, lc, F, f.length, fc⟩ x.now s (HHd.out.below x.bel (Nat.le_refl _)) HSR.out HCN.out))
    have HB2 := Lib.hid hb2
    have HRES := Lib.hid hres
    have HBOX := Lib.hid hbox
    have HBXX := Lib.hid hbxx
    clear hb2 hres hbox hbxx b0 b1 b2 b3 b4
    refine wp_quiet_below (by kernel_rfl) (by kernel_rfl) ?_
    repeat (quiet_step (first | (go_at_call 124; exact KM.out _)))
    refine wpQuiet_nil ?_
    intro w9 hw'
    have hb9 : Below wd.heap.size wd w9 := by obtain ⟨⟨wx, hbx⟩, hw''⟩ := hw'; rw [hw'']; exact hbx
    clear hw'
    have HB9 := Lib.hid (HB2.out.trans (hb9.mono (by omega)))
    have hs9 := hb9.size
    have HRES9 := Lib.hid (rowIs_below HRES.out hb9 (by omega))
    have HBOX9 := Lib.hid (rowIs_below HBOX.out hb9 (by omega))
    have HBXX9 := Lib.hid (rowIs_below HBXX.out hb9 (by omega))
    have r0 := (hb9.cell hbld).trans q0
    have r1 := (hb9.cell (p := ⟨ad.block, ad.off + 1, none⟩) hbld).trans q1
    have r2 := (hb9.cell (p := ⟨ad.block, ad.off + 2, none⟩) hbld).trans q2
    have hbl9 : ad.block < w9.heap.size := by omega
    clear Q0 Q1 Q2 B0 B1 B2 B3 B4 KM HRES HBOX HBXX q0 q1 q2 hb9 HHd HB2
    simp only [mI]
    have hci : (0 : Int) ≤ (i : Int) := by omega
    cases hst : s.i
    · have hyl := hyF hst
      obtain ⟨hil, -⟩ := HLT.out.2 hst
      obtain ⟨us, vs, hul, hvl, hrL, hLL, hrF, hFF⟩ := HH.out.rows
      have hzl : (ks.zip vs).length = f.length := by rw [List.length_zip, hvl, HE6.out]; omega
      obtain ⟨ad2, hA2, hSad, hcL⟩ := hrF (by rw [List.length_map]; omega)
      simp only at hA2
      subst hA2
      rw [hst] at r2
      have had2 : ad2.block < w.heap.size := HSb.out _ hSad
      have b3 := HBOX9.out.cell (show 4 < 5 by decide)
      have f3 := HBOX9.out.frozen 4
      simp only [hdAt, Hd.cells, List.getD_cons_succ, List.getD_cons_zero] at b3
      have KC := Lib.hid (cloneF (ks.zip vs) ad2 f.length fc w9 hzl.symm (by omega) hfl (fun j v hv jj c hc => by
        rw [HB9.out.cell (by rw [adb]; exact had2)]
        exact hcL j (pcells v) (by rw [List.getElem?_map, hv]; rfl) jj c hc))
      have HLL := Lib.hid hFF
      have HZL := Lib.hid hzl
      clear hzl
      have HYL := Lib.hid hyl
      clear hcL hLL hFF hrF hrL hyl hyL hyF
      go_wp2_with fail
      refine KC.out.mono ?_
      rintro e w10 ⟨g, cap, rfl, hown, hb10⟩
      have hs10 := hb10.size
      have hgl := own_lo hown (g := g) rfl
      have box10 := rowIs_below HBOX9.out hb10 (by omega)
      have c3 := box10.cell (show 4 < 5 by decide)
      have g3 := box10.frozen 4
      simp only [hdAt, Hd.cells, List.getD_cons_succ, List.getD_cons_zero] at c3
      clear b3 f3 KC
      go_upto_region 9 with fail
      have hgN : g ≠ w.heap.size := by omega
      have box11 : (w10.setCell ⟨w.heap.size, 4, none⟩ (.slice (some ⟨g, 0, none⟩) f.length cap)).rowIs w.heap.size 25 5 (hdAt ⟨hk, hnn, hss, HA, l.length, lc, some ⟨g, 0, none⟩, f.length, cap⟩) := by
        refine (box10.set 4 _).congr (fun j hj => ?_)
        match j, hj with
        | 0, _ => rfl
        | 1, _ => rfl
        | 2, _ => rfl
        | 3, _ => rfl
        | 4, _ => rfl
      have own11 : (w10.setCell ⟨w.heap.size, 4, none⟩ (.slice (some ⟨g, 0, none⟩) f.length cap)).ownsRow w9.heap.size 36 6 (.slice (some ⟨g, 0, none⟩) f.length cap) f.length ((ks.zip vs).flatMap pcells) := own_block hown (fun b hb => Below.heap_setCell _ _ _ _ (by simp [Value.ownBlock] at hb; show b ≠ w.heap.size; omega))
      have blk11 : ∀ b, b < w9.heap.size → b ≠ w.heap.size → (w10.setCell ⟨w.heap.size, 4, none⟩ (.slice (some ⟨g, 0, none⟩) f.length cap)).heap[b]? = w9.heap[b]? := fun b h1 h2 => (Below.heap_setCell _ _ _ _ h2).trans (hb10.block b h1)
      have bel11 : Below w.heap.size w (w10.setCell ⟨w.heap.size, 4, none⟩ (.slice (some ⟨g, 0, none⟩) f.length cap)) := (HB9.out.trans (hb10.mono (by omega))).setCell (Nat.le_refl _) _
      have sz11 : (w10.setCell ⟨w.heap.size, 4, none⟩ (.slice (some ⟨g, 0, none⟩) f.length cap)).heap.size = w10.heap.size := by simp
      generalize w10.setCell ⟨w.heap.size, 4, none⟩ (.slice (some ⟨g, 0, none⟩) f.length cap) = w11 at box11 own11 blk11 bel11 sz11 ⊢
      have HBOX := Lib.hid box11
      have HOWN := Lib.hid own11
      have HBLK := Lib.hid blk11
      have HBEL := Lib.hid bel11
      have HRES := Lib.hid (show w11.rowIs (w.heap.size + 1 + 1) 25 5 zeroRes from HRES9.out.of_block (blk11 _ (by omega) (by omega)))
      have HBXX := Lib.hid (show w11.rowIs (w.heap.size + 1) 25 5 (hdAt hx) from HBXX9.out.of_block (blk11 _ (by omega) (by omega)))
      clear box11 own11 blk11 bel11 hown hb10 box10 c3 g3 HRES9 HBXX9 HBOX9
      obtain ⟨u, hu, hLu⟩ := LiesL_at HLL.out HYL.out
      have hrow11 := row_of_own (S := fun _ => True) pcells (ks.zip vs) pcells_len HOWN.out (fun _ _ => trivial) (.inr (by decide))
      obtain ⟨adx, ex, _, hcx⟩ := hrow11 (by rw [List.length_map]; have := HZL.out; omega)
      obtain rfl : adx = ⟨g, 0, none⟩ := by injection ex with ex; exact ex.symm
      obtain ⟨ky, hky⟩ : ∃ ky, ks[i]? = some ky := ⟨ks[i]'(by have := HE6.out; omega), List.getElem?_eq_getElem (by have := HE6.out; omega)⟩
      have hce : ∀ j v, (pcells (ky, u))[j]? = some v → w11.cell? ⟨g, i * 6 + j, none⟩ = some v := fun j v hv => by
        have := hcx i (pcells (ky, u)) (by rw [List.getElem?_map, show (ks.zip vs)[i]? = some (ky, u) from List.getElem?_zip_eq_some.2 ⟨hky, hu⟩]; rfl) j v hv
        rwa [add0] at this
      have k0 := hce 1 _ rfl
      have k1 := hce 2 _ rfl
      have k2 := hce 3 _ rfl
      have k3 := hce 4 _ rfl
      have k4 := hce 5 _ rfl
      have b3 := HBOX.out.cell (show 4 < 5 by decide)
      have x0 := HBXX.out.cell (show 0 < 5 by decide)
      have x1 := HBXX.out.cell (show 1 < 5 by decide)
      have x2 := HBXX.out.cell (show 2 < 5 by decide)
      have x3 := HBXX.out.cell (show 3 < 5 by decide)
      have x4 := HBXX.out.cell (show 4 < 5 by decide)
      simp only [hdAt, Hd.cells, List.getD_cons_succ, List.getD_cons_zero] at b3 x0 x1 x2 x3 x4
      have HU := Lib.hid hu
      have HLu := Lib.hid hLu
      clear hcx hrow11 ex hu hLu
      have hcjl : (i : Int) < (f.length : Int) := by omega
      have HK := Lib.hid hce
      clear hce
      have hgl11 : g < w11.heap.size := by omega
      have hfr : ∀ o, w11.frozen? ⟨g, o, none⟩ = false := fun o => by
        rcases HOWN.out.2 with ⟨e, _⟩ | ⟨g2, cap2, cur, hv, _, hh, _⟩
        · cases e
        · injection hv with e1
          injection e1 with e1
          injection e1 with e1
          subst e1
          simp [World.frozen?, hh]
      have HFR := Lib.hid hfr
      clear hfr
      have HS0 : Hid (S6 w.heap.size 4 (.slice (some ⟨g, 0, none⟩) f.length cap) (w.heap.size + 1) hx w11.drew) := Lib.hid ⟨b3, x0, x1, x2, x3, x4⟩
      have HS1 := Lib.hid (show ∀ w5, Below w11.drew.heap.size w11.drew w5 → S6 w.heap.size 4 (.slice (some ⟨g, 0, none⟩) f.length cap) (w.heap.size + 1) hx w5 from fun w5 hb => S6.blk HS0.out (hb.block _ (show w.heap.size < w11.heap.size by omega)) (hb.block _ (show w.heap.size + 1 < w11.heap.size by omega)))
      have HS2 := Lib.hid (show ∀ w5 (v : Hd), Below w11.drew.heap.size w11.drew w5 → S6 w.heap.size 4 (.slice (some ⟨g, 0, none⟩) f.length cap) (w.heap.size + 1) hx (put5 w5 g (i * 6) v) from fun w5 v hb => S6.blk (HS1.out w5 hb) (put5_blk (by omega)) (put5_blk (by omega)))
      have HRR := Lib.hid (show ∀ w5, Below w11.drew.heap.size w11.drew w5 → w5.rowIs (w.heap.size + 1 + 1) 25 5 zeroRes ∧ w5.rowIs w.heap.size 25 5 (hdAt ⟨hk, hnn, hss, HA, l.length, lc, some ⟨g, 0, none⟩, f.length, cap⟩) from fun w5 hb => ⟨rowIs_below HRES.out.drew hb (show w.heap.size + 1 + 1 < w11.heap.size by omega), rowIs_below HBOX.out.drew hb (show w.heap.size < w11.heap.size by omega)⟩)
      have HKK := Lib.hid (show ∀ w5 o, Below w11.drew.heap.size w11.drew w5 → w5.cell? ⟨g, o, none⟩ = w11.cell? ⟨g, o, none⟩ ∧ w5.frozen? ⟨g, o, none⟩ = false from fun w5 o hb => ⟨hb.cell (p := ⟨g, o, none⟩) hgl11, (hb.frozen (p := ⟨g, o, none⟩) hgl11).trans (HFR.out o)⟩)
      have HBD : Hid (Below w.heap.size w w11.drew) := Lib.hid (HBEL.out.trans ((Below.refl _ _).drew))
      have HXC := Lib.hid (Nat.le_trans (cnt_sub (k := hk) (n := n) (t := t) (l := l) (ks := ks) (f := f) (.inr (List.mem_of_getElem? HYL.out))) HCN.out)
      have hld : ldEF = Op.load 25 (Operand.tmp 50) := rfl
      by_cases hc1 : c = 1
      · subst hc1
        obtain rfl : m = 1 := by omega
        have HCL := Lib.hid (IH.out y u w11.drew (some ad) 0 0 (fun b hb => by have := HSb.out b hb; show b < w11.heap.size; omega) (HLu.out.below HBD.out (Nat.le_refl _)) (HXX.out.below HBD.out (Nat.le_refl _)) (by have : p = [] := List.length_eq_zero_iff.1 (by have := HPL.out; omega); rw [this]; exact PathAt.nil _ _) (by have := HPL.out; omega) (Nat.le_refl _) HXC.out HGY.out)
        go_wp2_with fail
        rw [show Op.load 25 (Operand.tmp 50) = ldEF from rfl]
        go_region_held3 (fun w' => w'.cell? ⟨w.heap.size, 4, none⟩ = some (.slice (some ⟨g, 0, none⟩) f.length cap) ∧ w'.cell? ⟨w.heap.size + 1, 0, none⟩ = some (.int .i64 hx.k) ∧ w'.cell? ⟨w.heap.size + 1, 1, none⟩ = some (.int .i64 hx.n) ∧ w'.cell? ⟨w.heap.size + 1, 2, none⟩ = some (.string hx.s) ∧ w'.cell? ⟨w.heap.size + 1, 3, none⟩ = some (.slice hx.A hx.la hx.lc) ∧ w'.cell? ⟨w.heap.size + 1, 4, none⟩ = some (.slice hx.F hx.lf hx.fc))
          (first
            | (with_reducible exact HS2.out _ _ hb5)
            | (have h7 := HS1.out _ hb5; with_reducible exact h7)
            | (have h7 := HS0.out; with_reducible exact h7)
            | fail)
          (first
            | (go_at_call 112; refine HCL.out.mono ?_; rintro e w5 ⟨h', rfl, hl5, hb5⟩; have y0 := (HKK.out _ (i * 6 + 1) hb5).1.trans k0; have yf0 := (HKK.out _ (i * 6 + 1) hb5).2; have y1 := (HKK.out _ (i * 6 + 2) hb5).1.trans k1; have yf1 := (HKK.out _ (i * 6 + 2) hb5).2; have y2 := (HKK.out _ (i * 6 + 3) hb5).1.trans k2; have yf2 := (HKK.out _ (i * 6 + 3) hb5).2; have y3 := (HKK.out _ (i * 6 + 4) hb5).1.trans k3; have yf3 := (HKK.out _ (i * 6 + 4) hb5).2; have y4 := (HKK.out _ (i * 6 + 5) hb5).1.trans k4; have yf4 := (HKK.out _ (i * 6 + 5) hb5).2; have z0 := (HRR.out _ hb5).1.cell (show 0 < 5 by decide); have g0 := (HRR.out _ hb5).1.frozen 0; have c0 := (HRR.out _ hb5).2.cell (show 0 < 5 by decide); have z1 := (HRR.out _ hb5).1.cell (show 1 < 5 by decide); have g1 := (HRR.out _ hb5).1.frozen 1; have c1 := (HRR.out _ hb5).2.cell (show 1 < 5 by decide); have z2 := (HRR.out _ hb5).1.cell (show 2 < 5 by decide); have g2 := (HRR.out _ hb5).1.frozen 2; have c2 := (HRR.out _ hb5).2.cell (show 2 < 5 by decide); have z3 := (HRR.out _ hb5).1.cell (show 3 < 5 by decide); have g3 := (HRR.out _ hb5).1.frozen 3; have c3 := (HRR.out _ hb5).2.cell (show 3 < 5 by decide); have z4 := (HRR.out _ hb5).1.cell (show 4 < 5 by decide); have g4 := (HRR.out _ hb5).1.frozen 4; have c4 := (HRR.out _ hb5).2.cell (show 4 < 5 by decide); have HL5 := Lib.hid hl5; have HB5 := Lib.hid hb5; clear hl5; simp only [hdAt, Hd.cells, List.getD_cons_succ, List.getD_cons_zero] at z0 z1 z2 z3 z4 c0 c1 c2 c3 c4)
            | fail)
        all_goals go_wp2_with fail
        all_goals refine bodyPost_ret (v := .agg #[.int .i64 hk, .int .i64 hnn, .string hss, .slice HA l.length lc, .slice (some ⟨g, 0, none⟩) f.length cap]) (by simp [results, Try.results112, go_sem, z0, z1, z2, z3, z4]; try rfl) rfl ?_
        all_goals exact rep_F HH.out HLL.out HSb.out HBD.out (by omega) (by omega) (by omega) (show w.heap.size + 1 + 1 < w11.heap.size by omega) hgl11 HB5.out (own_base HOWN.out (by omega)) hil HL5.out (putV_F HSI.out hst HYL.out)
      · have HCL := Lib.hid (IH.out y u w11.drew (some ⟨ad.block, ad.off + 3, none⟩) (m - 1) (c - 1) (fun b hb => by have := HSb.out b hb; show b < w11.heap.size; omega) (HLu.out.below HBD.out (Nat.le_refl _)) (HXX.out.below HBD.out (Nat.le_refl _)) (by have h := HTL.out.below HBD.out (Nat.le_refl _); rwa [add_pos _ (by decide)] at h) (by have := HPL.out; omega) (by omega) HXC.out HGY.out)
        go_wp2_with fail
        rw [show Op.load 25 (Operand.tmp 50) = ldEF from rfl]
        go_region_held3 (fun w' => w'.cell? ⟨w.heap.size, 4, none⟩ = some (.slice (some ⟨g, 0, none⟩) f.length cap) ∧ w'.cell? ⟨w.heap.size + 1, 0, none⟩ = some (.int .i64 hx.k) ∧ w'.cell? ⟨w.heap.size + 1, 1, none⟩ = some (.int .i64 hx.n) ∧ w'.cell? ⟨w.heap.size + 1, 2, none⟩ = some (.string hx.s) ∧ w'.cell? ⟨w.heap.size + 1, 3, none⟩ = some (.slice hx.A hx.la hx.lc) ∧ w'.cell? ⟨w.heap.size + 1, 4, none⟩ = some (.slice hx.F hx.lf hx.fc))
          (first
            | (with_reducible exact HS2.out _ _ hb5)
            | (have h7 := HS1.out _ hb5; with_reducible exact h7)
            | (have h7 := HS0.out; with_reducible exact h7)
            | fail)
          (first
            | (go_at_call 112; refine HCL.out.mono ?_; rintro e w5 ⟨h', rfl, hl5, hb5⟩; have y0 := (HKK.out _ (i * 6 + 1) hb5).1.trans k0; have yf0 := (HKK.out _ (i * 6 + 1) hb5).2; have y1 := (HKK.out _ (i * 6 + 2) hb5).1.trans k1; have yf1 := (HKK.out _ (i * 6 + 2) hb5).2; have y2 := (HKK.out _ (i * 6 + 3) hb5).1.trans k2; have yf2 := (HKK.out _ (i * 6 + 3) hb5).2; have y3 := (HKK.out _ (i * 6 + 4) hb5).1.trans k3; have yf3 := (HKK.out _ (i * 6 + 4) hb5).2; have y4 := (HKK.out _ (i * 6 + 5) hb5).1.trans k4; have yf4 := (HKK.out _ (i * 6 + 5) hb5).2; have z0 := (HRR.out _ hb5).1.cell (show 0 < 5 by decide); have g0 := (HRR.out _ hb5).1.frozen 0; have c0 := (HRR.out _ hb5).2.cell (show 0 < 5 by decide); have z1 := (HRR.out _ hb5).1.cell (show 1 < 5 by decide); have g1 := (HRR.out _ hb5).1.frozen 1; have c1 := (HRR.out _ hb5).2.cell (show 1 < 5 by decide); have z2 := (HRR.out _ hb5).1.cell (show 2 < 5 by decide); have g2 := (HRR.out _ hb5).1.frozen 2; have c2 := (HRR.out _ hb5).2.cell (show 2 < 5 by decide); have z3 := (HRR.out _ hb5).1.cell (show 3 < 5 by decide); have g3 := (HRR.out _ hb5).1.frozen 3; have c3 := (HRR.out _ hb5).2.cell (show 3 < 5 by decide); have z4 := (HRR.out _ hb5).1.cell (show 4 < 5 by decide); have g4 := (HRR.out _ hb5).1.frozen 4; have c4 := (HRR.out _ hb5).2.cell (show 4 < 5 by decide); have HL5 := Lib.hid hl5; have HB5 := Lib.hid hb5; clear hl5; simp only [hdAt, Hd.cells, List.getD_cons_succ, List.getD_cons_zero] at z0 z1 z2 z3 z4 c0 c1 c2 c3 c4)
            | fail)
        all_goals go_wp2_with fail
        all_goals refine bodyPost_ret (v := .agg #[.int .i64 hk, .int .i64 hnn, .string hss, .slice HA l.length lc, .slice (some ⟨g, 0, none⟩) f.length cap]) (by simp [results, Try.results112, go_sem, z0, z1, z2, z3, z4]; try rfl) rfl ?_
        all_goals exact rep_F HH.out HLL.out HSb.out HBD.out (by omega) (by omega) (by omega) (show w.heap.size + 1 + 1 < w11.heap.size by omega) hgl11 HB5.out (own_base HOWN.out (by omega)) hil HL5.out (putV_F HSI.out hst HYL.out)
    · have hyl := hyL hst
      obtain ⟨hil, -⟩ := HLT.out.1 hst
      obtain ⟨us, vs, hul, hvl, hrL, hLL, hrF, hFF⟩ := HH.out.rows
      obtain ⟨ad2, hA2, hSad, hcL⟩ := hrL (by simp; omega)
      simp only at hA2
      subst hA2
      rw [hst] at r2
      have had2 : ad2.block < w.heap.size := HSb.out _ hSad
      have b3 := HBOX9.out.cell (show 3 < 5 by decide)
      have f3 := HBOX9.out.frozen 3
      simp only [hdAt, Hd.cells, List.getD_cons_succ, List.getD_cons_zero] at b3
      have KC := Lib.hid (cloneV us ad2 l.length lc w9 hul.symm (by omega) hll (fun j v hv jj c hc => by
        rw [HB9.out.cell (by rw [adb]; exact had2)]
        exact hcL j v.cells (by simp [hv]) jj c hc))
      have HLL := Lib.hid hLL
      have HYL := Lib.hid hyl
      clear hcL hLL hFF hrF hrL hyl hyL hyF
      go_wp2_with fail
      refine KC.out.mono ?_
      rintro e w10 ⟨g, cap, rfl, hown, hb10⟩
      have hs10 := hb10.size
      have hgl := own_lo hown (g := g) rfl
      have box10 := rowIs_below HBOX9.out hb10 (by omega)
      have c3 := box10.cell (show 3 < 5 by decide)
      have g3 := box10.frozen 3
      simp only [hdAt, Hd.cells, List.getD_cons_succ, List.getD_cons_zero] at c3
      clear b3 f3 KC
      go_upto_region 6 with fail
      have hgN : g ≠ w.heap.size := by omega
      have box11 : (w10.setCell ⟨w.heap.size, 3, none⟩ (.slice (some ⟨g, 0, none⟩) l.length cap)).rowIs w.heap.size 25 5 (hdAt ⟨hk, hnn, hss, some ⟨g, 0, none⟩, l.length, cap, F, f.length, fc⟩) := by
        refine (box10.set 3 _).congr (fun j hj => ?_)
        match j, hj with
        | 0, _ => rfl
        | 1, _ => rfl
        | 2, _ => rfl
        | 3, _ => rfl
        | 4, _ => rfl
      have own11 : (w10.setCell ⟨w.heap.size, 3, none⟩ (.slice (some ⟨g, 0, none⟩) l.length cap)).ownsRow w9.heap.size 25 5 (.slice (some ⟨g, 0, none⟩) l.length cap) l.length (us.flatMap Hd.cells) := own_block hown (fun b hb => Below.heap_setCell _ _ _ _ (by simp [Value.ownBlock] at hb; show b ≠ w.heap.size; omega))
      have blk11 : ∀ b, b < w9.heap.size → b ≠ w.heap.size → (w10.setCell ⟨w.heap.size, 3, none⟩ (.slice (some ⟨g, 0, none⟩) l.length cap)).heap[b]? = w9.heap[b]? := fun b h1 h2 => (Below.heap_setCell _ _ _ _ h2).trans (hb10.block b h1)
      have bel11 : Below w.heap.size w (w10.setCell ⟨w.heap.size, 3, none⟩ (.slice (some ⟨g, 0, none⟩) l.length cap)) := (HB9.out.trans (hb10.mono (by omega))).setCell (Nat.le_refl _) _
      have sz11 : (w10.setCell ⟨w.heap.size, 3, none⟩ (.slice (some ⟨g, 0, none⟩) l.length cap)).heap.size = w10.heap.size := by simp
      generalize w10.setCell ⟨w.heap.size, 3, none⟩ (.slice (some ⟨g, 0, none⟩) l.length cap) = w11 at box11 own11 blk11 bel11 sz11 ⊢
      have HBOX := Lib.hid box11
      have HOWN := Lib.hid own11
      have HBLK := Lib.hid blk11
      have HBEL := Lib.hid bel11
      have HRES := Lib.hid (show w11.rowIs (w.heap.size + 1 + 1) 25 5 zeroRes from HRES9.out.of_block (blk11 _ (by omega) (by omega)))
      have HBXX := Lib.hid (show w11.rowIs (w.heap.size + 1) 25 5 (hdAt hx) from HBXX9.out.of_block (blk11 _ (by omega) (by omega)))
      clear box11 own11 blk11 bel11 hown hb10 box10 c3 g3 HRES9 HBXX9 HBOX9
      obtain ⟨u, hu, hLu⟩ := LiesL_at HLL.out HYL.out
      have hrow11 := row_of_own (S := fun _ => True) Hd.cells us cells_len HOWN.out (fun _ _ => trivial) (.inr (by decide))
      obtain ⟨adx, ex, _, hcx⟩ := hrow11 (by simp; omega)
      obtain rfl : adx = ⟨g, 0, none⟩ := by injection ex with ex; exact ex.symm
      have hce : ∀ j v, u.cells[j]? = some v → w11.cell? ⟨g, i * 5 + j, none⟩ = some v := fun j v hv => by
        have := hcx i u.cells (by simp [hu]) j v hv
        rwa [add0] at this
      have k0 := hce 0 _ rfl
      have k1 := hce 1 _ rfl
      have k2 := hce 2 _ rfl
      have k3 := hce 3 _ rfl
      have k4 := hce 4 _ rfl
      rw [Nat.add_zero] at k0
      have b3 := HBOX.out.cell (show 3 < 5 by decide)
      have x0 := HBXX.out.cell (show 0 < 5 by decide)
      have x1 := HBXX.out.cell (show 1 < 5 by decide)
      have x2 := HBXX.out.cell (show 2 < 5 by decide)
      have x3 := HBXX.out.cell (show 3 < 5 by decide)
      have x4 := HBXX.out.cell (show 4 < 5 by decide)
      simp only [hdAt, Hd.cells, List.getD_cons_succ, List.getD_cons_zero] at b3 x0 x1 x2 x3 x4
      have HU := Lib.hid hu
      have HLu := Lib.hid hLu
      clear hcx hrow11 ex hu hLu
      have hcjl : (i : Int) < (l.length : Int) := by omega
      have HK := Lib.hid hce
      clear hce
      have hgl11 : g < w11.heap.size := by omega
      have hfr : ∀ o, w11.frozen? ⟨g, o, none⟩ = false := fun o => by
        rcases HOWN.out.2 with ⟨e, _⟩ | ⟨g2, cap2, cur, hv, _, hh, _⟩
        · cases e
        · injection hv with e1
          injection e1 with e1
          injection e1 with e1
          subst e1
          simp [World.frozen?, hh]
      have HFR := Lib.hid hfr
      clear hfr
      have HS0 : Hid (S6 w.heap.size 3 (.slice (some ⟨g, 0, none⟩) l.length cap) (w.heap.size + 1) hx w11.drew) := Lib.hid ⟨b3, x0, x1, x2, x3, x4⟩
      have HS1 := Lib.hid (show ∀ w5, Below w11.drew.heap.size w11.drew w5 → S6 w.heap.size 3 (.slice (some ⟨g, 0, none⟩) l.length cap) (w.heap.size + 1) hx w5 from fun w5 hb => S6.blk HS0.out (hb.block _ (show w.heap.size < w11.heap.size by omega)) (hb.block _ (show w.heap.size + 1 < w11.heap.size by omega)))
      have HS2 := Lib.hid (show ∀ w5 (v : Hd), Below w11.drew.heap.size w11.drew w5 → S6 w.heap.size 3 (.slice (some ⟨g, 0, none⟩) l.length cap) (w.heap.size + 1) hx (putL w5 g (i * 5) v) from fun w5 v hb => S6.blk (HS1.out w5 hb) (putL_blk (by omega)) (putL_blk (by omega)))
      have HRR := Lib.hid (show ∀ w5, Below w11.drew.heap.size w11.drew w5 → w5.rowIs (w.heap.size + 1 + 1) 25 5 zeroRes ∧ w5.rowIs w.heap.size 25 5 (hdAt ⟨hk, hnn, hss, some ⟨g, 0, none⟩, l.length, cap, F, f.length, fc⟩) from fun w5 hb => ⟨rowIs_below HRES.out.drew hb (show w.heap.size + 1 + 1 < w11.heap.size by omega), rowIs_below HBOX.out.drew hb (show w.heap.size < w11.heap.size by omega)⟩)
      have HKK := Lib.hid (show ∀ w5 o, Below w11.drew.heap.size w11.drew w5 → w5.cell? ⟨g, o, none⟩ = w11.cell? ⟨g, o, none⟩ ∧ w5.frozen? ⟨g, o, none⟩ = false from fun w5 o hb => ⟨hb.cell (p := ⟨g, o, none⟩) hgl11, (hb.frozen (p := ⟨g, o, none⟩) hgl11).trans (HFR.out o)⟩)
      have HBD : Hid (Below w.heap.size w w11.drew) := Lib.hid (HBEL.out.trans ((Below.refl _ _).drew))
      have HXC := Lib.hid (Nat.le_trans (cnt_sub (k := hk) (n := n) (t := t) (l := l) (ks := ks) (f := f) (.inl (List.mem_of_getElem? HYL.out))) HCN.out)
      have hld : ldE = Op.load 25 (Operand.tmp 31) := rfl
      by_cases hc1 : c = 1
      · subst hc1
        obtain rfl : m = 1 := by omega
        have HCL := Lib.hid (IH.out y u w11.drew (some ad) 0 0 (fun b hb => by have := HSb.out b hb; show b < w11.heap.size; omega) (HLu.out.below HBD.out (Nat.le_refl _)) (HXX.out.below HBD.out (Nat.le_refl _)) (by have : p = [] := List.length_eq_zero_iff.1 (by have := HPL.out; omega); rw [this]; exact PathAt.nil _ _) (by have := HPL.out; omega) (Nat.le_refl _) HXC.out HGY.out)
        go_wp2_with fail
        rw [show Op.load 25 (Operand.tmp 31) = ldE from rfl]
        go_region_held3 (fun w' => w'.cell? ⟨w.heap.size, 3, none⟩ = some (.slice (some ⟨g, 0, none⟩) l.length cap) ∧ w'.cell? ⟨w.heap.size + 1, 0, none⟩ = some (.int .i64 hx.k) ∧ w'.cell? ⟨w.heap.size + 1, 1, none⟩ = some (.int .i64 hx.n) ∧ w'.cell? ⟨w.heap.size + 1, 2, none⟩ = some (.string hx.s) ∧ w'.cell? ⟨w.heap.size + 1, 3, none⟩ = some (.slice hx.A hx.la hx.lc) ∧ w'.cell? ⟨w.heap.size + 1, 4, none⟩ = some (.slice hx.F hx.lf hx.fc))
          (first
            | (with_reducible exact HS2.out _ _ hb5)
            | (have h7 := HS1.out _ hb5; with_reducible exact h7)
            | (have h7 := HS0.out; with_reducible exact h7)
            | fail)
          (first
            | (go_at_call 112; refine HCL.out.mono ?_; rintro e w5 ⟨h', rfl, hl5, hb5⟩; have y0 := (HKK.out _ (i * 5) hb5).1.trans k0; have yf0 := (HKK.out _ (i * 5) hb5).2; have y1 := (HKK.out _ (i * 5 + 1) hb5).1.trans k1; have yf1 := (HKK.out _ (i * 5 + 1) hb5).2; have y2 := (HKK.out _ (i * 5 + 2) hb5).1.trans k2; have yf2 := (HKK.out _ (i * 5 + 2) hb5).2; have y3 := (HKK.out _ (i * 5 + 3) hb5).1.trans k3; have yf3 := (HKK.out _ (i * 5 + 3) hb5).2; have y4 := (HKK.out _ (i * 5 + 4) hb5).1.trans k4; have yf4 := (HKK.out _ (i * 5 + 4) hb5).2; have z0 := (HRR.out _ hb5).1.cell (show 0 < 5 by decide); have g0 := (HRR.out _ hb5).1.frozen 0; have c0 := (HRR.out _ hb5).2.cell (show 0 < 5 by decide); have z1 := (HRR.out _ hb5).1.cell (show 1 < 5 by decide); have g1 := (HRR.out _ hb5).1.frozen 1; have c1 := (HRR.out _ hb5).2.cell (show 1 < 5 by decide); have z2 := (HRR.out _ hb5).1.cell (show 2 < 5 by decide); have g2 := (HRR.out _ hb5).1.frozen 2; have c2 := (HRR.out _ hb5).2.cell (show 2 < 5 by decide); have z3 := (HRR.out _ hb5).1.cell (show 3 < 5 by decide); have g3 := (HRR.out _ hb5).1.frozen 3; have c3 := (HRR.out _ hb5).2.cell (show 3 < 5 by decide); have z4 := (HRR.out _ hb5).1.cell (show 4 < 5 by decide); have g4 := (HRR.out _ hb5).1.frozen 4; have c4 := (HRR.out _ hb5).2.cell (show 4 < 5 by decide); have HL5 := Lib.hid hl5; have HB5 := Lib.hid hb5; clear hl5; simp only [hdAt, Hd.cells, List.getD_cons_succ, List.getD_cons_zero] at z0 z1 z2 z3 z4 c0 c1 c2 c3 c4)
            | fail)
        all_goals go_wp2_with fail
        all_goals refine bodyPost_ret (v := .agg #[.int .i64 hk, .int .i64 hnn, .string hss, .slice (some ⟨g, 0, none⟩) l.length cap, .slice F f.length fc]) (by simp [results, Try.results112, go_sem, z0, z1, z2, z3, z4]; try rfl) rfl ?_
        all_goals exact rep_L HH.out HLL.out HSb.out HBD.out (by omega) (by omega) (by omega) (show w.heap.size + 1 + 1 < w11.heap.size by omega) hgl11 HB5.out (own_base HOWN.out (by omega)) hil HL5.out (putV_L HSI.out hst HYL.out)
      · have HCL := Lib.hid (IH.out y u w11.drew (some ⟨ad.block, ad.off + 3, none⟩) (m - 1) (c - 1) (fun b hb => by have := HSb.out b hb; show b < w11.heap.size; omega) (HLu.out.below HBD.out (Nat.le_refl _)) (HXX.out.below HBD.out (Nat.le_refl _)) (by have h := HTL.out.below HBD.out (Nat.le_refl _); rwa [add_pos _ (by decide)] at h) (by have := HPL.out; omega) (by omega) HXC.out HGY.out)
        go_wp2_with fail
        rw [show Op.load 25 (Operand.tmp 31) = ldE from rfl]
        go_region_held3 (fun w' => w'.cell? ⟨w.heap.size, 3, none⟩ = some (.slice (some ⟨g, 0, none⟩) l.length cap) ∧ w'.cell? ⟨w.heap.size + 1, 0, none⟩ = some (.int .i64 hx.k) ∧ w'.cell? ⟨w.heap.size + 1, 1, none⟩ = some (.int .i64 hx.n) ∧ w'.cell? ⟨w.heap.size + 1, 2, none⟩ = some (.string hx.s) ∧ w'.cell? ⟨w.heap.size + 1, 3, none⟩ = some (.slice hx.A hx.la hx.lc) ∧ w'.cell? ⟨w.heap.size + 1, 4, none⟩ = some (.slice hx.F hx.lf hx.fc))
          (first
            | (with_reducible exact HS2.out _ _ hb5)
            | (have h7 := HS1.out _ hb5; with_reducible exact h7)
            | (have h7 := HS0.out; with_reducible exact h7)
            | fail)
          (first
            | (go_at_call 112; refine HCL.out.mono ?_; rintro e w5 ⟨h', rfl, hl5, hb5⟩; have y0 := (HKK.out _ (i * 5) hb5).1.trans k0; have yf0 := (HKK.out _ (i * 5) hb5).2; have y1 := (HKK.out _ (i * 5 + 1) hb5).1.trans k1; have yf1 := (HKK.out _ (i * 5 + 1) hb5).2; have y2 := (HKK.out _ (i * 5 + 2) hb5).1.trans k2; have yf2 := (HKK.out _ (i * 5 + 2) hb5).2; have y3 := (HKK.out _ (i * 5 + 3) hb5).1.trans k3; have yf3 := (HKK.out _ (i * 5 + 3) hb5).2; have y4 := (HKK.out _ (i * 5 + 4) hb5).1.trans k4; have yf4 := (HKK.out _ (i * 5 + 4) hb5).2; have z0 := (HRR.out _ hb5).1.cell (show 0 < 5 by decide); have g0 := (HRR.out _ hb5).1.frozen 0; have c0 := (HRR.out _ hb5).2.cell (show 0 < 5 by decide); have z1 := (HRR.out _ hb5).1.cell (show 1 < 5 by decide); have g1 := (HRR.out _ hb5).1.frozen 1; have c1 := (HRR.out _ hb5).2.cell (show 1 < 5 by decide); have z2 := (HRR.out _ hb5).1.cell (show 2 < 5 by decide); have g2 := (HRR.out _ hb5).1.frozen 2; have c2 := (HRR.out _ hb5).2.cell (show 2 < 5 by decide); have z3 := (HRR.out _ hb5).1.cell (show 3 < 5 by decide); have g3 := (HRR.out _ hb5).1.frozen 3; have c3 := (HRR.out _ hb5).2.cell (show 3 < 5 by decide); have z4 := (HRR.out _ hb5).1.cell (show 4 < 5 by decide); have g4 := (HRR.out _ hb5).1.frozen 4; have c4 := (HRR.out _ hb5).2.cell (show 4 < 5 by decide); have HL5 := Lib.hid hl5; have HB5 := Lib.hid hb5; clear hl5; simp only [hdAt, Hd.cells, List.getD_cons_succ, List.getD_cons_zero] at z0 z1 z2 z3 z4 c0 c1 c2 c3 c4)
            | fail)
        all_goals go_wp2_with fail
        all_goals refine bodyPost_ret (v := .agg #[.int .i64 hk, .int .i64 hnn, .string hss, .slice (some ⟨g, 0, none⟩) l.length cap, .slice F f.length fc]) (by simp [results, Try.results112, go_sem, z0, z1, z2, z3, z4]; try rfl) rfl ?_
        all_goals exact rep_L HH.out HLL.out HSb.out HBD.out (by omega) (by omega) (by omega) (show w.heap.size + 1 + 1 < w11.heap.size by omega) hgl11 HB5.out (own_base HOWN.out (by omega)) hil HL5.out (putV_L HSI.out hst HYL.out)
end Go.Proofs.Ytmdlcalnncncjaa

/- path.changed and path.Put. -/
set_option linter.unusedVariables false
set_option linter.unusedSimpArgs false
namespace Go.Proofs.Ytmdlcalnncncjaa
open Go.RowKit
theorem cntL_put {y z : Va} : ∀ {l : List Va} {i : Nat}, l[i]? = some y → cntL (l.set i z) + y.cnt = cntL l + z.cnt
  | x :: r, 0, h => by
    simp at h
    subst h
    simp only [List.set_cons_zero, cntL]
    omega
  | x :: r, i + 1, h => by
    have := cntL_put (z := z) (l := r) (i := i) (by simpa using h)
    simp only [List.set_cons_succ, cntL]
    omega
theorem putV_both {x : Va} (hx : x.Sh) : ∀ (p : List St) (a : Va), a.Sh → (putV a p x).Sh ∧ (putV a p x).cnt ≤ a.cnt + x.cnt
  | [], a, h => by
    have : putV a [] x = x := by cases a; rfl
    rw [this]
    exact ⟨hx, by omega⟩
  | s :: p, .mk k n t l ks f, h => by
    have same : (Va.mk k n t l ks f).Sh ∧ (Va.mk k n t l ks f).cnt ≤ (Va.mk k n t l ks f).cnt + x.cnt := ⟨h, by omega⟩
    have hs := h
    simp only [Va.Sh] at hs
    simp only [putV]
    split
    · rename_i i hi
      split
      · split
        · rename_i y hy
          have ih := putV_both hx p y (ShL_mem hs.2.1 (List.mem_of_getElem? hy))
          have hc := cntL_put (z := putV y p x) hy
          simp only [Va.Sh, Va.cnt]
          exact ⟨⟨hs.1, ShL_set ih.1 l i hs.2.1, hs.2.2.1, hs.2.2.2⟩, by omega⟩
        · exact same
      · split
        · rename_i y hy
          have ih := putV_both hx p y (ShL_mem hs.2.2.2 (List.mem_of_getElem? hy))
          have hc := cntL_put (z := putV y p x) hy
          simp only [Va.Sh, Va.cnt]
          exact ⟨⟨hs.1, hs.2.1, hs.2.2.1, ShL_set ih.1 f i hs.2.2.2⟩, by omega⟩
        · exact same
    · exact same
/-- What changed answers of the value b. -/
def ChgR (b : Va) (w : World) (e : Ending) (w' : World) : Prop := ∃ (b2 : Va) (h' : Hd) (er : Int), e = .returned (.tuple #[.agg #[.int .i64 h'.k, .int .i64 h'.n, .string h'.s, .slice h'.A h'.la h'.lc, .slice h'.F h'.lf h'.fc], .int .i64 er]) ∧ Below w.heap.size w w' ∧ Lies w' (fun x => w.heap.size ≤ x) b2 h' ∧
  ((b.R 12 ∧ er = 0 ∧ b2 = b) ∨ (¬ b.R 12 ∧ er = 5 ∧ b2 = zeroVa))
theorem three_blocks {w w1 : World} {h hx : Hd} (hb : Below (((w.alloc (Obj.cells #[.int .i64 h.k, .int .i64 h.n, .string h.s, .slice h.A h.la h.lc, .slice h.F h.lf h.fc] 25)).alloc (Obj.cells #[.int .i64 hx.k, .int .i64 hx.n, .string hx.s, .slice hx.A hx.la hx.lc, .slice hx.F hx.lf hx.fc] 25)).alloc (Obj.cells #[.int .i64 0, .int .i64 0, .string { data := #[] }, .slice none 0 0, .slice none 0 0] 25)).heap.size (((w.alloc (Obj.cells #[.int .i64 h.k, .int .i64 h.n, .string h.s, .slice h.A h.la h.lc, .slice h.F h.lf h.fc] 25)).alloc (Obj.cells #[.int .i64 hx.k, .int .i64 hx.n, .string hx.s, .slice hx.A hx.la hx.lc, .slice hx.F hx.lf hx.fc] 25)).alloc (Obj.cells #[.int .i64 0, .int .i64 0, .string { data := #[] }, .slice none 0 0, .slice none 0 0] 25)) w1) : TB w h hx w1 := (TB.start w h hx).go hb (by simp)
set_option maxHeartbeats 2000000 in
set_option maxRecDepth 100000 in
theorem changed_any (S : Nat → Prop) (x : Va) (hx : Hd) (p : List St) (a : Va) (h : Hd) (w : World) (A : Option Addr) (m c : Nat) (hSb : ∀ b, S b → b < w.heap.size) (H : Lies w S a h) (HX : Lies w S x hx) (hA : PathAt w A p) (hR : ∀ s ∈ p, StR s) (hm : m = p.length) (hc : m ≤ c) (hp : m ≤ 1000) (hsh : a.Sh) (hcn : a.cnt ≤ 400) (hxs : x.Sh) (hxc : x.cnt ≤ 400) (hgo : (goV a p).isSome = true) :
    Calls Try.prog 88 #[h.val, .slice A m c, hx.val] w fun e w' => ChgR (putV a p x) w e w' := by
  have htb := TB.start w h hx
  have hbs := htb.bel.size
  have K1 := Lib.hid (replaced_any S x hx p a h _ A m c (fun b hb => by have := hSb b hb; omega) (H.below htb.bel (Nat.le_refl _)) (HX.below htb.bel (Nat.le_refl _)) (hA.below htb.bel (Nat.le_refl _)) hR hm hc hp (by omega) hgo)
  have HBO := Lib.hid (putV_both hxs p a hsh)
  have HCNT : Hid ((putV a p x).cnt ≤ 1000) := Lib.hid (by have := (putV_both hxs p a hsh).2; omega)
  unfold Hd.val at *
  generalize putV a p x = b at *
  clear H HX hA hR hm hsh hxs hgo htb hbs hSb
  go_enter Try.func88, Try.ntmps88
  go_wp2_with fail
  refine K1.out.mono ?_
  rintro e w1 ⟨h', rfl, hl1, hb1⟩
  have HT1 := Lib.hid (three_blocks hb1)
  have HL1 := Lib.hid (show Lies w1 (fun _ => True) b h' from Lies.keep (fun _ _ _ => rfl) (fun _ _ _ => trivial) _ _ hl1)
  clear hl1 hb1 K1
  go_upto_region 2 with fail
  have hb4 := one_alloc w1 (Obj.cells #[.int .i64 h'.k, .int .i64 h'.n, .string h'.s, .slice h'.A h'.la h'.lc, .slice h'.F h'.lf h'.fc] 25)
  have hcx := Bx.start w1 h' 25
  generalize w1.alloc (Obj.cells #[.int .i64 h'.k, .int .i64 h'.n, .string h'.s, .slice h'.A h'.la h'.lc, .slice h'.F h'.lf h'.fc] 25) = w4 at hb4 hcx ⊢
  have HT4 := Lib.hid (HT1.out.go hb4 HT1.out.sz)
  have HL4 := Lib.hid (HL1.out.below hb4 (Nat.le_refl _))
  have HC4 := Lib.hid hcx
  have x0 := hcx.2 0 _ rfl
  have x1 := hcx.2 1 _ rfl
  have x2 := hcx.2 2 _ rfl
  have x3 := hcx.2 3 _ rfl
  have x4 := hcx.2 4 _ rfl
  clear hb4 hcx HT1 HL1
  have K2 := Lib.hid (right_prog b _ h' w4 HL4.out HBO.out.1 HCNT.out)
  unfold Hd.val at K2
  go_wp2_with fail
  refine K2.out.mono ?_
  rintro e w5 ⟨r, rfl, hr, hb5⟩
  have HR := Lib.hid hr
  have HT5 := Lib.hid (HT4.out.go hb5 HT4.out.sz)
  have HC5 := Lib.hid (HC4.out.go hb5 HC4.out.1)
  have HL5 := Lib.hid (HL4.out.below hb5 (Nat.le_refl _))
  clear hr hb5 K2 x0 x1 x2 x3 x4 HT4 HC4 HL4
  cases r
  · have z0 := HT5.out.res.cell (show 0 < 5 by decide)
    have z1 := HT5.out.res.cell (show 1 < 5 by decide)
    have z2 := HT5.out.res.cell (show 2 < 5 by decide)
    have z3 := HT5.out.res.cell (show 3 < 5 by decide)
    have z4 := HT5.out.res.cell (show 4 < 5 by decide)
    have g0 := HT5.out.res.frozen 0
    have g1 := HT5.out.res.frozen 1
    have g2 := HT5.out.res.frozen 2
    have g3 := HT5.out.res.frozen 3
    have g4 := HT5.out.res.frozen 4
    simp only [hdAt, Hd.cells, List.getD_cons_succ, List.getD_cons_zero] at z0 z1 z2 z3 z4
    go_wp2_with fail
    refine bodyPost_ret (v := .tuple #[.agg #[.int .i64 0, .int .i64 0, .string ByteArray.empty, .slice none 0 0, .slice none 0 0], .int .i64 5]) (by simp [results, Try.results88, go_sem, z0, z1, z2, z3, z4]; try rfl) rfl ?_
    exact ⟨zeroVa, zeroHd, 5, rfl, res_below HT5.out.bel (by omega), lies_zero _ _, .inr ⟨fun h => absurd (HR.out.2 h) (by decide), rfl, rfl⟩⟩
  have HY := Lib.hid (HR.out.1 rfl)
  have x0 := HC5.out.2 0 _ rfl
  have x1 := HC5.out.2 1 _ rfl
  have x2 := HC5.out.2 2 _ rfl
  have x3 := HC5.out.2 3 _ rfl
  have x4 := HC5.out.2 4 _ rfl
  have KC := Lib.hid (clone_prog b _ h' w5 HL5.out HBO.out.1 HCNT.out)
  unfold Hd.val at KC
  clear HR
  go_wp2_with fail
  refine KC.out.mono ?_
  rintro e w6 ⟨b6, h6, T6, rfl, hown6, hT6, hb6, hba6, -⟩
  obtain rfl : b6 = b := hba6 HY.out
  have HT6 := Lib.hid (HT5.out.go hb6 HT5.out.sz)
  have HL6 := Lib.hid (Own.lies _ _ _ hown6)
  have HTT := Lib.hid hT6
  have hs5 := HT5.out.sz
  clear hown6 hT6 hb6 hba6 KC x0 x1 x2 x3 x4
  have z0 := HT6.out.res.cell (show 0 < 5 by decide)
  have z1 := HT6.out.res.cell (show 1 < 5 by decide)
  have z2 := HT6.out.res.cell (show 2 < 5 by decide)
  have z3 := HT6.out.res.cell (show 3 < 5 by decide)
  have z4 := HT6.out.res.cell (show 4 < 5 by decide)
  have g0 := HT6.out.res.frozen 0
  have g1 := HT6.out.res.frozen 1
  have g2 := HT6.out.res.frozen 2
  have g3 := HT6.out.res.frozen 3
  have g4 := HT6.out.res.frozen 4
  simp only [hdAt, Hd.cells, List.getD_cons_succ, List.getD_cons_zero] at z0 z1 z2 z3 z4
  go_wp2_with fail
  refine bodyPost_ret (v := .tuple #[.agg #[.int .i64 h6.k, .int .i64 h6.n, .string h6.s, .slice h6.A h6.la h6.lc, .slice h6.F h6.lf h6.fc], .int .i64 0]) (by simp [results, Try.results88, go_sem, z0, z1, z2, z3, z4]; try rfl) rfl ?_
  refine ⟨b6, h6, 0, rfl, res_below HT6.out.bel (by omega), ?_, .inl ⟨HY.out, rfl, rfl⟩⟩
  exact Lies.keep (fun q hq _ => World.cell?_of_block (res_set (w := w) _ (fun e => by have := (HTT.out _ hq).1; omega))) (fun q hq _ => by have := (HTT.out _ hq).1; omega) _ _ HL6.out
end Go.Proofs.Ytmdlcalnncncjaa

/- path.Put. -/
set_option linter.unusedVariables false
set_option linter.unusedSimpArgs false
namespace Go.Proofs.Ytmdlcalnncncjaa
open Go.RowKit
/-- What Put answers. -/
def PutQ (a : Va) (p : List St) (x : Va) (w : World) (e : Ending) (w' : World) : Prop := ∃ (b : Va) (h' : Hd) (er : Int), e = .returned (.tuple #[.agg #[.int .i64 h'.k, .int .i64 h'.n, .string h'.s, .slice h'.A h'.la h'.lc, .slice h'.F h'.lf h'.fc], .int .i64 er]) ∧ Below w.heap.size w w' ∧ Lies w' (fun _ => True) b h' ∧
  ((¬ AllR a p [x] ∧ er = 1 ∧ b = zeroVa) ∨ (AllR a p [x] ∧ goV a p = none ∧ er = 8 ∧ b = zeroVa) ∨ (AllR a p [x] ∧ (goV a p).isSome = true ∧ (putV a p x).R 12 ∧ er = 0 ∧ b = putV a p x) ∨ (AllR a p [x] ∧ (goV a p).isSome = true ∧ ¬ (putV a p x).R 12 ∧ er = 5 ∧ b = zeroVa))
theorem InsAt.one {w : World} {x : Va} {u : Hd} (H : Lies w (fun _ => True) x u) (hs : x.Sh) (hc : x.cnt ≤ 1000) : InsAt (w.alloc (Obj.cells #[.int .i64 u.k, .int .i64 u.n, .string u.s, .slice u.A u.la u.lc, .slice u.F u.lf u.fc] 25)) (some ⟨w.heap.size, 0, none⟩) [x] := by
  intro i y hy
  have hi : i < 1 := (List.getElem?_eq_some_iff.1 hy).1
  obtain rfl : i = 0 := by omega
  simp at hy
  subst hy
  have hb := Bx.start w u 25
  refine ⟨_, u, rfl, by rw [adb]; simp, H.below (one_alloc _ _) (Nat.le_refl _), At5.of fun j c hj => ?_, hs, hc⟩
  rw [ada, Nat.zero_mul, Nat.zero_add, add0]
  exact hb.2 j c hj
set_option maxHeartbeats 2000000 in
set_option maxRecDepth 100000 in
theorem put_prog (a x : Va) (S S' : Nat → Prop) (h hx : Hd) (w : World) (A : Option Addr) (m c : Nat) (p : List St) (H : Lies w S a h) (HX : Lies w S' x hx) (hsh : a.Sh) (hcn : a.cnt ≤ 400) (hxs : x.Sh) (hxc : x.cnt ≤ 400) (hA : PathAt w A p) (hm : m = p.length) (hc : m ≤ c) (hp : m ≤ 1000) :
    Calls Try.prog 51 #[h.val, .slice A m c, hx.val] w fun e w' => PutQ a p x w e w' := by
  have HS := Lib.hid (show Lies w (fun b => b < w.heap.size) a h from Lies.keep (fun _ _ _ => rfl) (fun b _ hb => hb) _ _ H)
  have HSX := Lib.hid (show Lies w (fun b => b < w.heap.size) x hx from Lies.keep (fun _ _ _ => rfl) (fun b _ hb => hb) _ _ HX)
  have HSH := Lib.hid hsh
  have HXS := Lib.hid hxs
  have HA := Lib.hid hA
  have HM := Lib.hid hm
  have htb := TB.start w h hx
  have hb5 := htb.bel.trans ((one_alloc (((w.alloc (Obj.cells #[.int .i64 h.k, .int .i64 h.n, .string h.s, .slice h.A h.la h.lc, .slice h.F h.lf h.fc] 25)).alloc (Obj.cells #[.int .i64 hx.k, .int .i64 hx.n, .string hx.s, .slice hx.A hx.la hx.lc, .slice hx.F hx.lf hx.fc] 25)).alloc (Obj.cells #[.int .i64 0, .int .i64 0, .string { data := #[] }, .slice none 0 0, .slice none 0 0] 25)) (Obj.cells #[.int .i64 hx.k, .int .i64 hx.n, .string hx.s, .slice hx.A hx.la hx.lc, .slice hx.F hx.lf hx.fc] 25)).mono htb.bel.size)
  have hTB := htb.go (one_alloc _ (Obj.cells #[.int .i64 hx.k, .int .i64 hx.n, .string hx.s, .slice hx.A hx.la hx.lc, .slice hx.F hx.lf hx.fc] 25)) htb.sz
  have hins := InsAt.one (show Lies _ (fun _ => True) x hx from Lies.keep (fun _ _ _ => rfl) (fun _ _ _ => trivial) _ _ (HX.below htb.bel (Nat.le_refl _))) hxs (by omega : x.cnt ≤ 1000)
  have K1 := Lib.hid (target_any (fun b => b < w.heap.size) a h _ A m c p _ 1 1 [x] (fun b hb => by have := hb5.size; omega) (HS.out.below hb5 (Nat.le_refl _)) hsh (by omega) (hA.below hb5 (Nat.le_refl _)) hm hc hp hins rfl (by decide))
  have HTB := Lib.hid hTB
  have HCA := Lib.hid hcn
  have HCX := Lib.hid hxc
  have hsz0 : ((((w.alloc (Obj.cells #[.int .i64 h.k, .int .i64 h.n, .string h.s, .slice h.A h.la h.lc, .slice h.F h.lf h.fc] 25)).alloc (Obj.cells #[.int .i64 hx.k, .int .i64 hx.n, .string hx.s, .slice hx.A hx.la hx.lc, .slice hx.F hx.lf hx.fc] 25)).alloc (Obj.cells #[.int .i64 0, .int .i64 0, .string { data := #[] }, .slice none 0 0, .slice none 0 0] 25))).heap.size = w.heap.size + 1 + 1 + 1 := by simp
  rw [hsz0] at K1
  unfold Hd.val at *
  clear H HX hsh hxs hA hm htb hb5 hTB hins hsz0 hcn hxc
  go_enter Try.func51, Try.ntmps51
  go_wp2_with fail
  refine K1.out.mono ?_
  rintro e w1 ⟨b, h', er, rfl, hb1, hl1, ho1⟩
  have HT1 := Lib.hid (HTB.out.go hb1 HTB.out.sz)
  have HO1 := Lib.hid ho1
  clear hb1 hl1 ho1 K1 HTB
  go_upto_region 2 with fail
  have hb4 := one_alloc w1 (Obj.cells #[.int .i64 h'.k, .int .i64 h'.n, .string h'.s, .slice h'.A h'.la h'.lc, .slice h'.F h'.lf h'.fc] 25)
  generalize w1.alloc (Obj.cells #[.int .i64 h'.k, .int .i64 h'.n, .string h'.s, .slice h'.A h'.la h'.lc, .slice h'.F h'.lf h'.fc] 25) = w4 at hb4 ⊢
  have HT4 := Lib.hid (HT1.out.go hb4 HT1.out.sz)
  clear hb4 HT1
  by_cases he : er = 0
  case neg =>
    have he' := bq_no he
    have HNO : Hid ((¬ AllR a p [x] ∧ er = 1) ∨ (AllR a p [x] ∧ goV a p = none ∧ er = 8)) := Lib.hid (by
      rcases HO1.out with ⟨h1, h2, _⟩ | ⟨h1, h2, _, h3⟩ | ⟨_, h1, _⟩
      · exact .inl ⟨h1, h2⟩
      · exact .inr ⟨h1, h3, h2⟩
      · exact absurd h1 he)
    clear he
    have z0 := HT4.out.res.cell (show 0 < 5 by decide)
    have z1 := HT4.out.res.cell (show 1 < 5 by decide)
    have z2 := HT4.out.res.cell (show 2 < 5 by decide)
    have z3 := HT4.out.res.cell (show 3 < 5 by decide)
    have z4 := HT4.out.res.cell (show 4 < 5 by decide)
    have g0 := HT4.out.res.frozen 0
    have g1 := HT4.out.res.frozen 1
    have g2 := HT4.out.res.frozen 2
    have g3 := HT4.out.res.frozen 3
    have g4 := HT4.out.res.frozen 4
    simp only [hdAt, Hd.cells, List.getD_cons_succ, List.getD_cons_zero] at z0 z1 z2 z3 z4
    go_wp2_with fail
    refine bodyPost_ret (v := .tuple #[.agg #[.int .i64 0, .int .i64 0, .string ByteArray.empty, .slice none 0 0, .slice none 0 0], .int .i64 er]) (by simp [results, Try.results51, go_sem, z0, z1, z2, z3, z4]; try rfl) rfl ?_
    refine ⟨zeroVa, zeroHd, er, rfl, res_below HT4.out.bel (by omega), lies_zero _ _, ?_⟩
    rcases HNO.out with ⟨h1, h2⟩ | ⟨h1, h2, h3⟩
    · exact .inl ⟨h1, h2, rfl⟩
    · exact .inr (.inl ⟨h1, h2, h3, rfl⟩)
  subst he
  have HYES : Hid (AllR a p [x] ∧ goV a p = some b) := Lib.hid (by
    rcases HO1.out with ⟨_, h1, _⟩ | ⟨_, h1, _⟩ | ⟨h0, _, h1⟩
    · exact absurd h1 (by decide)
    · exact absurd h1 (by decide)
    · exact ⟨h0, h1⟩)
  have HSOM : Hid ((goV a p).isSome = true) := Lib.hid (by rw [HYES.out.2]; rfl)
  have hs4 := HT4.out.sz
  have KC := Lib.hid (changed_any (fun b => b < w.heap.size) x hx p a h w4 A m c (fun b hb => by omega) (HS.out.below HT4.out.bel (Nat.le_refl _)) (HSX.out.below HT4.out.bel (Nat.le_refl _)) (HA.out.below HT4.out.bel (Nat.le_refl _)) HYES.out.1.2.1.2 HM.out hc hp HSH.out HCA.out HXS.out HCX.out HSOM.out)
  unfold Hd.val at KC
  have q0 := HT4.out.bv.2 0 _ rfl
  have q1 := HT4.out.bv.2 1 _ rfl
  have q2 := HT4.out.bv.2 2 _ rfl
  have q3 := HT4.out.bv.2 3 _ rfl
  have q4 := HT4.out.bv.2 4 _ rfl
  have x0 := HT4.out.bx.2 0 _ rfl
  have x1 := HT4.out.bx.2 1 _ rfl
  have x2 := HT4.out.bx.2 2 _ rfl
  have x3 := HT4.out.bx.2 3 _ rfl
  have x4 := HT4.out.bx.2 4 _ rfl
  go_wp2_with fail
  refine KC.out.mono ?_
  rintro e w6 ⟨b6, h6, er, rfl, hb6, hl6, ho6⟩
  have HT6 := Lib.hid (HT4.out.go hb6 HT4.out.sz)
  have HL6 := Lib.hid hl6
  have HO6 := Lib.hid ho6
  clear hb6 hl6 ho6 KC x0 x1 x2 x3 x4 q0 q1 q2 q3 q4
  have z0 := HT6.out.res.cell (show 0 < 5 by decide)
  have z1 := HT6.out.res.cell (show 1 < 5 by decide)
  have z2 := HT6.out.res.cell (show 2 < 5 by decide)
  have z3 := HT6.out.res.cell (show 3 < 5 by decide)
  have z4 := HT6.out.res.cell (show 4 < 5 by decide)
  have g0 := HT6.out.res.frozen 0
  have g1 := HT6.out.res.frozen 1
  have g2 := HT6.out.res.frozen 2
  have g3 := HT6.out.res.frozen 3
  have g4 := HT6.out.res.frozen 4
  simp only [hdAt, Hd.cells, List.getD_cons_succ, List.getD_cons_zero] at z0 z1 z2 z3 z4
  go_wp2_with fail
  refine bodyPost_ret (v := .tuple #[.agg #[.int .i64 h6.k, .int .i64 h6.n, .string h6.s, .slice h6.A h6.la h6.lc, .slice h6.F h6.lf h6.fc], .int .i64 er]) (by simp [results, Try.results51, go_sem, z0, z1, z2, z3, z4]; try rfl) rfl ?_
  refine ⟨b6, h6, er, rfl, res_below HT6.out.bel (by omega), ?_, ?_⟩
  · exact Lies.keep (fun q hq _ => World.cell?_of_block (res_set (w := w) _ (fun e => by rw [e] at hq; omega))) (fun _ _ _ => trivial) _ _ HL6.out
  · rcases HO6.out with ⟨h1, h2, h3⟩ | ⟨h1, h2, h3⟩
    · exact .inr (.inr (.inl ⟨HYES.out.1, HSOM.out, h1, h2, h3⟩))
    · exact .inr (.inr (.inr ⟨HYES.out.1, HSOM.out, h1, h2, h3⟩))
end Go.Proofs.Ytmdlcalnncncjaa

/- What the reference's Sorted answers, as a plain function. -/
set_option linter.unusedVariables false
set_option linter.unusedSimpArgs false
namespace Go.Proofs.Ytmdlcalnncncjaa
open Go.RowKit
def lessB (x y : ByteArray) : Bool := Op.bytesLess x.toList y.toList
/-- How many keys at the beginning are below a key. -/
def plc : List ByteArray → ByteArray → Nat
  | [], _ => 0
  | x :: r, key => if lessB x key then plc r key + 1 else 0
theorem plc_le (key : ByteArray) : ∀ ks : List ByteArray, plc ks key ≤ ks.length
  | [] => Nat.le_refl _
  | x :: r => by
    have := plc_le key r
    simp only [plc, List.length_cons]
    split <;> omega
theorem plc_step {key : ByteArray} : ∀ {ks : List ByteArray} {k : Nat} {x : ByteArray}, k ≤ plc ks key → ks[k]? = some x → lessB x key = true → k + 1 ≤ plc ks key
  | [], k, x, _, h, _ => by simp at h
  | y :: r, 0, x, _, h, hl => by
    simp at h
    subst h
    simp [plc, hl]
  | y :: r, k + 1, x, hk, h, hl => by
    simp only [plc] at hk ⊢
    split at hk
    · rename_i hy
      rw [if_pos hy]
      have := plc_step (ks := r) (k := k) (by omega) (by simpa using h) hl
      omega
    · omega
theorem plc_stop {key : ByteArray} : ∀ {ks : List ByteArray} {k : Nat} {x : ByteArray}, k ≤ plc ks key → ks[k]? = some x → lessB x key = false → k = plc ks key
  | [], k, x, _, h, _ => by simp at h
  | y :: r, 0, x, _, h, hl => by
    simp at h
    subst h
    simp [plc, hl]
  | y :: r, k + 1, x, hk, h, hl => by
    simp only [plc] at hk ⊢
    split at hk
    · rename_i hy
      rw [if_pos hy]
      have := plc_stop (ks := r) (k := k) (by omega) (by simpa using h) hl
      omega
    · omega
theorem plc_end {key : ByteArray} {ks : List ByteArray} {k : Nat} (h : k ≤ plc ks key) (hk : ks.length ≤ k) : k = plc ks key := by
  have := plc_le key ks
  omega
/-- A pair put among pairs. -/
def putP {α : Type} (acc : List (ByteArray × α)) (p : ByteArray × α) : List (ByteArray × α) := acc.take (plc (acc.map Prod.fst) p.1) ++ p :: acc.drop (plc (acc.map Prod.fst) p.1)
def srtP {α : Type} (ps : List (ByteArray × α)) : List (ByteArray × α) := ps.foldl putP []
theorem putP_length {α : Type} (acc : List (ByteArray × α)) (p : ByteArray × α) : (putP acc p).length = acc.length + 1 := by
  have := plc_le p.1 (acc.map Prod.fst)
  simp only [List.length_map] at this
  simp only [putP, List.length_append, List.length_take, List.length_cons, List.length_drop]
  omega
theorem foldP_length {α : Type} : ∀ (ps acc : List (ByteArray × α)), (ps.foldl putP acc).length = acc.length + ps.length
  | [], acc => rfl
  | p :: r, acc => by
    rw [List.foldl_cons, foldP_length r, putP_length, List.length_cons]
    omega
theorem srtP_length {α : Type} (ps : List (ByteArray × α)) : (srtP ps).length = ps.length := by
  rw [srtP, foldP_length]
  simp
theorem srtP_step {α : Type} {ps : List (ByteArray × α)} {i : Nat} {p : ByteArray × α} (h : ps[i]? = some p) : srtP (ps.take (i + 1)) = putP (srtP (ps.take i)) p := by
  rw [srtP, List.take_add_one, h]
  simp [srtP, List.foldl_append]
/-- The same order whatever the pairs hold: a putting is a putting of what is held. -/
theorem putP_map {α β : Type} (g : α → β) (acc : List (ByteArray × α)) (p : ByteArray × α) : (putP acc p).map (fun q => (q.1, g q.2)) = putP (acc.map fun q => (q.1, g q.2)) (p.1, g p.2) := by
  have : (acc.map fun q => (q.1, g q.2)).map Prod.fst = acc.map Prod.fst := by simp [List.map_map, Function.comp_def]
  simp only [putP, this, List.map_append, List.map_take, List.map_cons, List.map_drop]
mutual
/-- A value with its pairs by their keys. -/
def Va.srt : Va → Va
  | .mk k n s l ks f => .mk k n s (srtL l) ((srtP (ks.zip (srtL f))).map Prod.fst) ((srtP (ks.zip (srtL f))).map Prod.snd)
def srtL : List Va → List Va
  | [] => []
  | x :: r => x.srt :: srtL r
end
theorem srtL_map : ∀ l : List Va, srtL l = l.map Va.srt
  | [] => rfl
  | x :: r => by rw [srtL, List.map_cons, srtL_map r]
theorem srtL_get {l : List Va} {i : Nat} {x : Va} (h : l[i]? = some x) : (srtL l)[i]? = some x.srt := by
  rw [srtL_map, List.getElem?_map, h]
  rfl
theorem srtL_length (l : List Va) : (srtL l).length = l.length := by rw [srtL_map, List.length_map]
end Go.Proofs.Ytmdlcalnncncjaa

/- What the reference's Sorted leaves, step by step: the elements. -/
set_option linter.unusedVariables false
set_option linter.unusedSimpArgs false
namespace Go.Proofs.Ytmdlcalnncncjaa
open Go.RowKit
/-- What Sorted answers: the value lies above the old heap. -/
def SrtR (a : Va) (w : World) (e : Ending) (w' : World) : Prop := ∃ h', e = .returned (.agg #[.int .i64 h'.k, .int .i64 h'.n, .string h'.s, .slice h'.A h'.la h'.lc, .slice h'.F h'.lf h'.fc]) ∧ Lies w' (fun b => w.heap.size ≤ b) a.srt h' ∧ Below w.heap.size w w'
/-- A row that is being made: its elements lie off it. -/
structure LieP (w : World) (lo : Nat) (v : Value) (l : List Va) (us : List Hd) : Prop where
  len : us.length = l.length
  lie : ∀ (i : Nat) x u, l[i]? = some x → us[i]? = some u → Lies w (fun b => lo ≤ b ∧ v.ownBlock ≠ some b) x u
theorem LieP.start (w : World) (lo : Nat) (v : Value) : LieP w lo v [] [] := ⟨rfl, fun i x u h => by simp at h⟩
theorem LieP.step {w w' : World} {lo : Nat} {v v' : Value} {l : List Va} {us : List Hd} {x : Va} {u : Hd} (h : LieP w lo v l us)
    (hk : ∀ b, lo ≤ b → b < w.heap.size → v.ownBlock ≠ some b → w'.heap[b]? = w.heap[b]?) (hx : Lies w' (fun b => lo ≤ b ∧ v'.ownBlock ≠ some b) x u)
    (hv : ∀ b, lo ≤ b → b < w.heap.size → v'.ownBlock = some b → v.ownBlock = some b) : LieP w' lo v' (l ++ [x]) (us ++ [u]) := by
  refine ⟨by simp [h.len], fun i y z hy hz => ?_⟩
  by_cases hi : i < l.length
  · rw [List.getElem?_append_left hi] at hy
    rw [List.getElem?_append_left (by rw [h.len]; exact hi)] at hz
    exact Lies.keep (fun p hp hl => World.cell?_of_block (hk _ hp.1 hl hp.2)) (fun b hb hl => ⟨hb.1, fun e => hb.2 (hv b hb.1 hl e)⟩) _ _ (h.lie i y z hy hz)
  · rw [List.getElem?_append_right (by omega)] at hy
    rw [List.getElem?_append_right (by rw [h.len]; omega)] at hz
    rw [h.len] at hz
    obtain ⟨rfl, e⟩ : x = y ∧ i - l.length = 0 := by
      rcases hj : i - l.length with _ | j
      · rw [hj] at hy; simpa using hy
      · rw [hj] at hy; simp at hy
    rw [e] at hz
    simp at hz
    subst hz
    exact hx
/-- The loop over the elements. -/
structure LoopA (wc : World) (W : Nat) (hk hnn : Int) (hs : ByteArray) (l : List Va) (i : Nat) (wr : World) (us : List Hd) (A' : Option Addr) (c' : Nat) : Prop where
  hi : i ≤ l.length
  kp : Kp W wc wr
  row : wr.rowIs W 25 5 (hdAt ⟨hk, hnn, hs, A', i, c', none, 0, 0⟩)
  own : wr.ownsRow wc.heap.size 25 5 (.slice A' i c') i (us.flatMap Hd.cells)
  part : LieP wr wc.heap.size (.slice A' i c') (l.take i) us
theorem LoopA.step {wc wr wx w2 w3 : World} {W i g cap : Nat} {hk hnn : Int} {hs : ByteArray} {l : List Va} {us : List Hd} {A' : Option Addr} {c' : Nat} {x : Va} {h' : Hd} {o : Obj}
    (H : LoopA wc W hk hnn hs l i wr us A' c') (hW : W < wc.heap.size) (hx : l[i]? = some x) (hbx : Below wr.heap.size wr wx) (hb2 : Below wx.drew.heap.size wx.drew w2) (ho : Lies w2 (fun b => wx.drew.heap.size ≤ b) x h')
    (hown3 : w3.ownsRow wc.heap.size 25 5 (.slice (some ⟨g, 0, none⟩) (i + 1) cap) (i + 1) (us.flatMap Hd.cells ++ h'.cells)) (hgrow : (w2.alloc o).grownBy w3 (Value.slice A' i c').ownBlock)
    (hat : (Value.slice A' i c').ownBlock = some g ∨ g = w2.heap.size + 1) :
    LoopA wc W hk hnn hs l (i + 1) (w3.setCell ⟨W, 3, none⟩ (.slice (some ⟨g, 0, none⟩) (i + 1) cap)) (us ++ [h']) (some ⟨g, 0, none⟩) cap := by
  have hb2' : Below wx.heap.size wx w2 := ((Below.refl _ _).drew).trans hb2
  have hbr : Below wr.heap.size wr w2 := hbx.trans (hb2'.mono hbx.size)
  have hil : i < l.length := (List.getElem?_eq_some_iff.1 hx).1
  have hkr := H.kp.size
  have hs2 := hbr.size
  have hsx := hbx.size
  have hs2x := hb2'.size
  have hg3 := hgrow.size
  simp only [World.size_alloc] at hg3
  have hrow : ∀ b, (Value.slice A' i c').ownBlock = some b → wc.heap.size ≤ b ∧ b < wr.heap.size := fun b hb => own_lo H.own hb
  have blk : ∀ b, b < wr.heap.size → (Value.slice A' i c').ownBlock ≠ some b → w3.heap[b]? = wr.heap[b]? := fun b h1 h2 => by
    rw [hgrow.block b (by simp; omega) (fun e => h2 e.symm), Below.heap_alloc _ _ _ (by omega), hbr.block b h1]
  have blkT : ∀ b, wx.heap.size ≤ b → b < w2.heap.size → w3.heap[b]? = w2.heap[b]? := fun b h1 h2 => by
    rw [hgrow.block b (by simp; omega) (fun e => by have := hrow b e.symm; omega), Below.heap_alloc _ _ _ (by omega)]
  have hWr : W < wr.heap.size := by omega
  have hWn : (Value.slice A' i c').ownBlock ≠ some W := fun e => by have := hrow W e; omega
  have hgW : g ≠ W := by
    rcases hat with e | e
    · have := hrow g e; omega
    · omega
  have set_blk : ∀ b, b ≠ W → (w3.setCell ⟨W, 3, none⟩ (.slice (some ⟨g, 0, none⟩) (i + 1) cap)).heap[b]? = w3.heap[b]? := fun b hb => Below.heap_setCell _ _ _ _ hb
  refine ⟨by omega, ?_, ?_, ?_, ?_⟩
  · refine Kp.setN ⟨?_, by omega, fun k h1 h2 => ?_⟩ _
    · exact ((H.kp.bel.trans (hbr.mono (by omega))).alloc (by omega) o).grown hgrow (by simp; omega) (fun k hk => by have := hrow k hk; omega)
    · rw [blk k (by omega) (fun e => by have := hrow k e; omega)]
      exact H.kp.block k h1 h2
  · have h0 : w3.rowIs W 25 5 (hdAt ⟨hk, hnn, hs, A', i, c', none, 0, 0⟩) := rowIs_below' (B := 0) H.row (blk W hWr hWn)
    refine (h0.set 3 _).congr (fun j hj => ?_)
    match j, hj with
    | 0, _ => rfl
    | 1, _ => rfl
    | 2, _ => rfl
    | 3, _ => rfl
    | 4, _ => rfl
  · rw [List.flatMap_append, List.flatMap_singleton]
    refine own_block hown3 fun b hb => set_blk b ?_
    simp only [Value.ownBlock, Option.some.injEq] at hb
    omega
  · rw [take_next hx]
    have hgb : ∀ b, (Value.slice (some ⟨g, 0, none⟩) (i + 1) cap).ownBlock = some b → b = g := fun b hb => by
      simp only [Value.ownBlock, Option.some.injEq] at hb
      exact hb.symm
    refine H.part.step ?_ ?_ ?_
    · intro b h1 h2 h3
      rw [set_blk b (by omega)]
      exact blk b h2 h3
    · refine Lies.keep (fun p (hp : wx.heap.size ≤ p.block) hl => World.cell?_of_block ?_) (fun b (hb : wx.heap.size ≤ b) hl => ⟨by omega, fun e => ?_⟩) x h' ho
      · rw [set_blk _ (by omega)]
        exact blkT _ hp hl
      · have e1 := hgb b e
        rcases hat with e2 | e2
        · have := hrow g e2
          omega
        · omega
    · intro b h1 h2 e
      have e1 := hgb b e
      rcases hat with e2 | e2
      · rw [e1]; exact e2
      · omega
end Go.Proofs.Ytmdlcalnncncjaa

/- What the reference's Sorted leaves, step by step: the pairs. -/
set_option linter.unusedVariables false
set_option linter.unusedSimpArgs false
namespace Go.Proofs.Ytmdlcalnncncjaa
open Go.RowKit
/-- The loop over the pairs. -/
structure LoopG (wd : World) (W : Nat) (hw : Hd) (qs : List (ByteArray × Va)) (i : Nat) (wt : World) (vs : List (ByteArray × Hd)) (F' : Option Addr) (d' : Nat) : Prop where
  hi : i ≤ qs.length
  kp : Kp W wd wt
  row : wt.rowIs W 25 5 (hdAt ⟨hw.k, hw.n, hw.s, hw.A, hw.la, hw.lc, F', i, d'⟩)
  own : wt.ownsRow wd.heap.size 36 6 (.slice F' i d') i (vs.flatMap pcells)
  keys : vs.map Prod.fst = (srtP (qs.take i)).map Prod.fst
  lie : ∀ (j : Nat) p v, (srtP (qs.take i))[j]? = some p → vs[j]? = some v → Lies wt (fun b => wd.heap.size ≤ b) p.2 v.2
/-- The load of out.L in the drawn statement, under a name. -/
def ldS : Op := Op.load 22 (Operand.tmp 23)
/-- What the drawn statement of an element loads. -/
def SE (X : Nat) (sl : Value) (q : Addr) (u : Hd) (w : World) : Prop := w.cell? ⟨X, 3, none⟩ = some sl ∧ At5 w q u
theorem SE.imp {X : Nat} {sl : Value} {q : Addr} {u : Hd} {w w' : World} (h : SE X sl q u w) (hX : w'.heap[X]? = w.heap[X]?) (hq : w'.heap[q.block]? = w.heap[q.block]?) : SE X sl q u w' :=
  ⟨(World.cell?_of_block (a := ⟨X, 3, none⟩) hX).trans h.1, (World.cell?_of_block (a := q) hq).trans h.2.1, (World.cell?_of_block (a := ⟨q.block, _, none⟩) hq).trans h.2.2.1, (World.cell?_of_block (a := ⟨q.block, _, none⟩) hq).trans h.2.2.2.1, (World.cell?_of_block (a := ⟨q.block, _, none⟩) hq).trans h.2.2.2.2.1, (World.cell?_of_block (a := ⟨q.block, _, none⟩) hq).trans h.2.2.2.2.2⟩
theorem SE.ltX {X : Nat} {sl : Value} {q : Addr} {u : Hd} {w : World} (h : SE X sl q u w) : X < w.heap.size := World.block_lt_of_cell? w _ h.1
theorem SE.ltq {X : Nat} {sl : Value} {q : Addr} {u : Hd} {w : World} (h : SE X sl q u w) : q.block < w.heap.size := World.block_lt_of_cell? w _ h.2.1
theorem SE.call {X : Nat} {sl : Value} {q : Addr} {u : Hd} {w w2 : World} (h : SE X sl q u w) (hb : Below w.drew.heap.size w.drew w2) : SE X sl q u w2 := h.imp (hb.block _ h.ltX) (hb.block _ h.ltq)
theorem SE.alloc {X : Nat} {sl : Value} {q : Addr} {u : Hd} {w : World} (h : SE X sl q u w) (o : Obj) : SE X sl q u (w.alloc o) := h.imp (Below.heap_alloc _ _ _ h.ltX) (Below.heap_alloc _ _ _ h.ltq)
theorem SE.grown {X : Nat} {sl : Value} {q : Addr} {u : Hd} {w w' : World} {row : Option Nat} (h : SE X sl q u w) (hg : w.grownBy w' row) (h1 : some X ≠ row) (h2 : some q.block ≠ row) : SE X sl q u w' := h.imp (hg.block _ h.ltX h1) (hg.block _ h.ltq h2)
theorem SE.set {X W o : Nat} {sl : Value} {q : Addr} {u : Hd} {w : World} (h : SE X sl q u w) (h1 : X ≠ W) (h2 : q.block ≠ W) (v : Value) : SE X sl q u (w.setCell ⟨W, o, none⟩ v) := h.imp (Below.heap_setCell _ _ _ _ h1) (Below.heap_setCell _ _ _ _ h2)
/-- What the drawn statement of a pair loads. -/
abbrev SG (X : Nat) (sl : Value) (q : Addr) (key : ByteArray) (u : Hd) (w' : World) : Prop := w'.cell? ⟨X, 4, none⟩ = some sl ∧ w'.cell? q = some (.string key) ∧ w'.cell? ⟨q.block, q.off + 1, none⟩ = some (.int .i64 u.k) ∧ w'.cell? ⟨q.block, q.off + 2, none⟩ = some (.int .i64 u.n) ∧ w'.cell? ⟨q.block, q.off + 3, none⟩ = some (.string u.s) ∧ w'.cell? ⟨q.block, q.off + 4, none⟩ = some (.slice u.A u.la u.lc) ∧ w'.cell? ⟨q.block, q.off + 5, none⟩ = some (.slice u.F u.lf u.fc)
theorem SG.imp {X : Nat} {sl : Value} {q : Addr} {key : ByteArray} {u : Hd} {w w' : World} (h : SG X sl q key u w) (hX : w'.heap[X]? = w.heap[X]?) (hq : w'.heap[q.block]? = w.heap[q.block]?) : SG X sl q key u w' :=
  ⟨(World.cell?_of_block (a := ⟨X, 4, none⟩) hX).trans h.1, (World.cell?_of_block (a := q) hq).trans h.2.1, (World.cell?_of_block (a := ⟨q.block, _, none⟩) hq).trans h.2.2.1, (World.cell?_of_block (a := ⟨q.block, _, none⟩) hq).trans h.2.2.2.1, (World.cell?_of_block (a := ⟨q.block, _, none⟩) hq).trans h.2.2.2.2.1, (World.cell?_of_block (a := ⟨q.block, _, none⟩) hq).trans h.2.2.2.2.2.1, (World.cell?_of_block (a := ⟨q.block, _, none⟩) hq).trans h.2.2.2.2.2.2⟩
theorem SG.ltX {X : Nat} {sl : Value} {q : Addr} {key : ByteArray} {u : Hd} {w : World} (h : SG X sl q key u w) : X < w.heap.size := World.block_lt_of_cell? w _ h.1
theorem SG.ltq {X : Nat} {sl : Value} {q : Addr} {key : ByteArray} {u : Hd} {w : World} (h : SG X sl q key u w) : q.block < w.heap.size := World.block_lt_of_cell? w _ h.2.1
theorem SG.call {X : Nat} {sl : Value} {q : Addr} {key : ByteArray} {u : Hd} {w w2 : World} (h : SG X sl q key u w) (hb : Below w.drew.heap.size w.drew w2) : SG X sl q key u w2 := h.imp (hb.block _ h.ltX) (hb.block _ h.ltq)
theorem SG.alloc {X : Nat} {sl : Value} {q : Addr} {key : ByteArray} {u : Hd} {w : World} (h : SG X sl q key u w) (o : Obj) : SG X sl q key u (w.alloc o) := h.imp (Below.heap_alloc _ _ _ h.ltX) (Below.heap_alloc _ _ _ h.ltq)
theorem SG.callB {X : Nat} {sl : Value} {q : Addr} {key : ByteArray} {u : Hd} {w w1 : World} {o : Obj} (h : ∀ o, SG X sl q key u (w.alloc o).drew) (hb : Below (w.alloc o).drew.heap.size (w.alloc o).drew w1) : SG X sl q key u w1 := SG.imp (h o) (hb.block _ (h o).ltX) (hb.block _ (h o).ltq)
theorem SG.callC {X : Nat} {sl : Value} {q : Addr} {key : ByteArray} {u : Hd} {w w1 : World} {o : Obj} (h : ∀ o, SG X sl q key u (w.drew.alloc o)) (hb : Below (w.drew.alloc o).heap.size (w.drew.alloc o) w1) : SG X sl q key u w1 := SG.imp (h o) (hb.block _ (h o).ltX) (hb.block _ (h o).ltq)
theorem SG.set6 {X N : Nat} {sl : Value} {q : Addr} {key : ByteArray} {u : Hd} {w : World} (h : SG X sl q key u w) (h1 : X ≠ N) (h2 : q.block ≠ N) (v0 v1 v2 v3 v4 v5 : Value) :
    SG X sl q key u ((((((w.setCell ⟨N, 0, none⟩ v0).setCell ⟨N, 1, none⟩ v1).setCell ⟨N, 2, none⟩ v2).setCell ⟨N, 3, none⟩ v3).setCell ⟨N, 4, none⟩ v4).setCell ⟨N, 5, none⟩ v5) := by
  refine h.imp ?_ ?_
  · rw [Below.heap_setCell _ _ _ _ h1, Below.heap_setCell _ _ _ _ h1, Below.heap_setCell _ _ _ _ h1, Below.heap_setCell _ _ _ _ h1, Below.heap_setCell _ _ _ _ h1, Below.heap_setCell _ _ _ _ h1]
  · rw [Below.heap_setCell _ _ _ _ h2, Below.heap_setCell _ _ _ _ h2, Below.heap_setCell _ _ _ _ h2, Below.heap_setCell _ _ _ _ h2, Below.heap_setCell _ _ _ _ h2, Below.heap_setCell _ _ _ _ h2]
/-- Behind the statement of a pair: p lies at P. -/
structure AftP (wr : World) (P : Nat) (key : ByteArray) (y : Va) (h' : Hd) (wp : World) : Prop where
  bel : Below wr.heap.size wr wp
  lo : wr.heap.size ≤ P
  cel : ∀ (j : Nat) c, (pcells (key, h'))[j]? = some c → wp.cell? ⟨P, j, none⟩ = some c
  lt : P < wp.heap.size
  lie : Lies wp (fun b => wr.heap.size ≤ b) y h'
theorem aftA {wr w1 : World} {key : ByteArray} {y : Va} {h' : Hd} (hb1 : Below wr.drew.heap.size wr.drew w1) (hl : Lies w1 (fun b => wr.drew.heap.size ≤ b) y h') : AftP wr w1.heap.size key y h' (w1.alloc (Obj.cells #[.string key, .int .i64 h'.k, .int .i64 h'.n, .string h'.s, .slice h'.A h'.la h'.lc, .slice h'.F h'.lf h'.fc] 36)) := by
  have hb : Below wr.heap.size wr w1 := ((Below.refl _ _).drew).trans hb1
  refine ⟨hb.alloc hb.size _, hb.size, fun j c hc => ?_, by simp, hl.below (one_alloc w1 _) (Nat.le_refl _)⟩
  exact (World.cell?_alloc_new w1 _ _ j).trans (by rw [← hc]; simp [pcells, Hd.cells])
theorem aftB {wr w1 : World} {key : ByteArray} {y : Va} {h' : Hd} {cs : Array Value} (hcs : cs.size = 6) (hb1 : Below (wr.alloc (Obj.cells cs 36)).drew.heap.size (wr.alloc (Obj.cells cs 36)).drew w1) (hl : Lies w1 (fun b => (wr.alloc (Obj.cells cs 36)).drew.heap.size ≤ b) y h') :
    AftP wr wr.heap.size key y h' ((((((w1.setCell ⟨wr.heap.size, 0, none⟩ (.string key)).setCell ⟨wr.heap.size, 1, none⟩ (.int .i64 h'.k)).setCell ⟨wr.heap.size, 2, none⟩ (.int .i64 h'.n)).setCell ⟨wr.heap.size, 3, none⟩ (.string h'.s)).setCell ⟨wr.heap.size, 4, none⟩ (.slice h'.A h'.la h'.lc)).setCell ⟨wr.heap.size, 5, none⟩ (.slice h'.F h'.lf h'.fc)) := by
  have hb1' : Below (wr.alloc (Obj.cells cs 36)).heap.size (wr.alloc (Obj.cells cs 36)) w1 := ((Below.refl _ _).drew).trans hb1
  have hb : Below wr.heap.size wr w1 := (after_alloc hb1').1
  have hsz := hb1'.size
  simp only [World.size_alloc] at hsz
  have hr : w1.rowIs wr.heap.size 36 6 (fun i => cs.getD i undef) := by
    refine ⟨cs, ?_, hcs, fun i hi => ?_⟩
    · exact (hb1'.block wr.heap.size (by simp)).trans (heap_alloc_new wr _)
    · have : i < cs.size := by omega
      simp [Array.getD, this]
  have hr6 := (((((hr.set 0 (.string key)).set 1 (.int .i64 h'.k)).set 2 (.int .i64 h'.n)).set 3 (.string h'.s)).set 4 (.slice h'.A h'.la h'.lc)).set 5 (.slice h'.F h'.lf h'.fc)
  refine ⟨(((((hb.setCell (Nat.le_refl _) _).setCell (Nat.le_refl _) _).setCell (Nat.le_refl _) _).setCell (Nat.le_refl _) _).setCell (Nat.le_refl _) _).setCell (Nat.le_refl _) _, Nat.le_refl _, fun j c hc => ?_, hr6.lt, ?_⟩
  · have hj : j < 6 := (List.getElem?_eq_some_iff.1 hc).1
    rw [hr6.cell hj]
    match j, hj with
    | 0, _ => simpa [pcells, Hd.cells] using hc
    | 1, _ => simpa [pcells, Hd.cells] using hc
    | 2, _ => simpa [pcells, Hd.cells] using hc
    | 3, _ => simpa [pcells, Hd.cells] using hc
    | 4, _ => simpa [pcells, Hd.cells] using hc
    | 5, _ => simpa [pcells, Hd.cells] using hc
  · refine Lies.keep (fun p (hp : (wr.alloc (Obj.cells cs 36)).heap.size ≤ p.block) _ => World.cell?_of_block ?_) (fun b (hb9 : (wr.alloc (Obj.cells cs 36)).heap.size ≤ b) _ => ?_) y h' hl
    · have hn : p.block ≠ wr.heap.size := by simp only [World.size_alloc] at hp; omega
      rw [Below.heap_setCell _ _ _ _ hn, Below.heap_setCell _ _ _ _ hn, Below.heap_setCell _ _ _ _ hn, Below.heap_setCell _ _ _ _ hn, Below.heap_setCell _ _ _ _ hn, Below.heap_setCell _ _ _ _ hn]
    · simp only [World.size_alloc] at hb9; omega

/-- append of what may be nothing, onto a row of one's own. -/
theorem wpList_append_may {P : Program} (w : World) {ops : Array Oper} {rest : List Oper} {o : Oper} {a : Act} {Q : Exit → Act → World → Prop} (hgd : o.guard = none) (s x : Operand) (t : TypeId)
    (ho : o.op = .call { callee := .builtin .append, args := #[s, x], argTypes := #[t, t] })
    (base : Nat) (e : TypeId) (i : TypeInfo) (z : Value) (size bytes : Nat) (ht : P.underlying t = some (.slice e)) (hi : P.info? e = some i) (hz : i.zero = some z)
    (hsize : i.size = size) (hby : i.bytes = bytes) (hzs : z.cells.size = size) (hsz : 0 < size)
    (v : Value) (n : Nat) (xs : List Value) (hs : a.eval s = v) (hown : w.ownsRow base e size v n xs)
    (B : Option Addr) (m c : Nat) (news : List Value) (hx : a.eval x = .slice B m c) (hl : news.length = m * size)
    (hsrc : (∃ ad, B = some ad ∧ ∀ j u, news[j]? = some u → w.cell? (ad.add j) = some u) ∨ (B = none ∧ m = 0 ∧ news = [])) (h1 : ∀ u ∈ news, u.oneCell' = true)
    (h63 : n + m ≤ maxLen) (hbytes : (n + m) * bytes ≤ 140737488355328) (hbase : base ≤ w.heap.size)
    (h : ∀ v' w', w'.ownsRow base e size v' (n + m) (xs ++ news) → w.grownBy w' v.ownBlock → (v'.ownBlock = v.ownBlock ∨ v'.ownBlock = some w.heap.size) → wpList P ops Q rest (a.put o.dst v') w') :
    wpList P ops Q (o :: rest) a w := by
  rcases hsrc with ⟨ad, rfl, hnews⟩ | ⟨rfl, rfl, rfl⟩
  · exact wpList_append_own_at w hgd s x t ho base e i z size bytes ht hi hz hsize hby hzs hsz v n xs hs hown ad m c news hx hl hnews h1 h63 hbytes hbase fun v' w' a1 a2 _ a4 => h v' w' a1 a2 a4
  · refine wpList_plain hgd fun K hK => ?_
    have hr : (Builtin.append_ #[t, t] o.type #[v, .slice none 0 c]).run P w = .ok v w := by
      rcases hown.2 with ⟨rfl, _⟩ | ⟨g, cap, cur, rfl, _, hh, hle, _, hcs, _⟩
      · have hs0 : Src P i.size t (.slice none 0 c) 0 [] w := Src.ofNil w ht c
        simp [Builtin.append_, run_underlying ht, sizeOf, typeInfo, hi, hs0.len, hs0.cells]
      · have hs0 : Src P i.size t (.slice none 0 c) 0 [] w := Src.ofNil w ht c
        have := run_append_room_src (P := P) w t t o.type e i ht hi g 0 n cap (.slice none 0 c) 0 [] hs0 (by omega) (fun j hj => by simp at hj) (fun j hj => by simp at hj)
        simpa [World.setCells] using this
    unfold Oper.wp execOp
    simp only [ho, resolve, invoke, builtin, Sem.run_bind, Sem.run_pure, Result.andThen_ok, List.map_toArray, List.map_cons, List.map_nil, hs, hx, hr]
    refine hK _ _ (h v w ?_ ⟨rfl, rfl, rfl, Nat.le_refl _, fun _ _ _ => rfl⟩ (.inl rfl))
    simpa using hown
theorem putP_fst {α β : Type} {acc : List (ByteArray × α)} {acc' : List (ByteArray × β)} {key : ByteArray} {x : α} {y : β} (h : acc.map Prod.fst = acc'.map Prod.fst) : (putP acc (key, x)).map Prod.fst = (putP acc' (key, y)).map Prod.fst := by
  simp only [putP, List.map_append, List.map_take, List.map_cons, List.map_drop, h]
theorem putP_rel {α β : Type} {R : (ByteArray × α) → (ByteArray × β) → Prop} {acc : List (ByteArray × α)} {acc' : List (ByteArray × β)} {key : ByteArray} {x : α} {y : β} (h : acc.map Prod.fst = acc'.map Prod.fst)
    (hr : ∀ (j : Nat) p v, acc[j]? = some p → acc'[j]? = some v → R p v) (hx : R (key, x) (key, y)) : ∀ (j : Nat) p v, (putP acc (key, x))[j]? = some p → (putP acc' (key, y))[j]? = some v → R p v := by
  intro j p v hp hv
  have hl : acc.length = acc'.length := by simpa using congrArg List.length h
  have hk := plc_le key (acc'.map Prod.fst)
  simp only [List.length_map] at hk
  simp only [putP, h] at hp hv
  generalize plc (acc'.map Prod.fst) key = k at hp hv hk
  have l1 : (acc.take k).length = k := by rw [List.length_take]; omega
  have l2 : (acc'.take k).length = k := by rw [List.length_take]; omega
  by_cases h1 : j < k
  · rw [List.getElem?_append_left (by omega), List.getElem?_take_of_lt h1] at hp hv
    exact hr j p v hp hv
  · rw [List.getElem?_append_right (by omega), l1] at hp
    rw [List.getElem?_append_right (by omega), l2] at hv
    rcases hj : j - k with _ | m
    · rw [hj] at hp hv
      simp at hp hv
      subst hp
      subst hv
      exact hx
    · rw [hj] at hp hv
      simp only [List.getElem?_cons_succ, List.getElem?_drop] at hp hv
      exact hr _ p v hp hv
theorem flat_split {k : Nat} (vs : List (ByteArray × Hd)) : (vs.take k).flatMap pcells ++ (vs.drop k).flatMap pcells = vs.flatMap pcells := by
  rw [← List.flatMap_append, List.take_append_drop]
theorem flat_len (vs : List (ByteArray × Hd)) : (vs.flatMap pcells).length = vs.length * 6 := by
  induction vs with
  | nil => rfl
  | cons x r ih => rw [List.flatMap_cons, List.length_append, ih, pcells_len, List.length_cons]; omega
theorem flat_one (vs : List (ByteArray × Hd)) : ∀ u ∈ vs.flatMap pcells, u.oneCell' = true := by
  intro u hu
  obtain ⟨x, _, hx⟩ := List.mem_flatMap.1 hu
  simp only [pcells, Hd.cells, List.mem_cons, List.not_mem_nil, or_false] at hx
  rcases hx with rfl | rfl | rfl | rfl | rfl | rfl <;> rfl
/-- The cells of a beginning, of a rest. -/
theorem flat_take_at {vs : List (ByteArray × Hd)} {k j : Nat} {u : Value} (h : ((vs.take k).flatMap pcells)[j]? = some u) : (vs.flatMap pcells)[j]? = some u := by
  rw [← flat_split (k := k) vs, List.getElem?_append_left (List.getElem?_eq_some_iff.1 h).1]
  exact h
theorem flat_drop_at {vs : List (ByteArray × Hd)} {k j : Nat} {u : Value} (hk : k ≤ vs.length) (h : ((vs.drop k).flatMap pcells)[j]? = some u) : (vs.flatMap pcells)[k * 6 + j]? = some u := by
  have l1 : ((vs.take k).flatMap pcells).length = k * 6 := by rw [flat_len, List.length_take]; congr 1; omega
  rw [← flat_split (k := k) vs, List.getElem?_append_right (by omega), l1]
  rw [show k * 6 + j - k * 6 = j by omega]
  exact h
theorem LoopG.len {wd wr : World} {W i : Nat} {hw : Hd} {qs : List (ByteArray × Va)} {vs : List (ByteArray × Hd)} {F' : Option Addr} {d' : Nat} (H : LoopG wd W hw qs i wr vs F' d') : vs.length = i := by
  have h := congrArg List.length H.keys
  rw [List.length_map, List.length_map, srtP_length, List.length_take] at h
  have := H.hi
  omega
/-- A round of the pairs' loop. -/
theorem LoopG.step {wd wr wp wq w3 : World} {W i g cap P d' : Nat} {hw : Hd} {qs : List (ByteArray × Va)} {vs : List (ByteArray × Hd)} {F' : Option Addr} {key : ByteArray} {y : Va} {h' : Hd}
    (H : LoopG wd W hw qs i wr vs F' d') (hW : W < wd.heap.size) (hx : qs[i]? = some (key, y)) (HA : AftP wr P key y h' wp) (hq : Below wp.heap.size wp wq) (h3 : Below wq.heap.size wq w3)
    (hown : w3.ownsRow wq.heap.size 36 6 (.slice (some ⟨g, 0, none⟩) (i + 1) cap) (i + 1) ((putP vs (key, h')).flatMap pcells)) :
    LoopG wd W hw qs (i + 1) (w3.setCell ⟨W, 4, none⟩ (.slice (some ⟨g, 0, none⟩) (i + 1) cap)) (putP vs (key, h')) (some ⟨g, 0, none⟩) cap := by
  have hil : i < qs.length := (List.getElem?_eq_some_iff.1 hx).1
  have s1 := H.kp.size
  have s2 := HA.bel.size
  have s3 := hq.size
  have s4 := h3.size
  have hall : Below wr.heap.size wr w3 := HA.bel.trans ((hq.mono s2).trans (h3.mono (by omega)))
  have hg := own_lo hown (g := g) rfl
  have hgW : g ≠ W := by omega
  have set_blk : ∀ b, b ≠ W → (w3.setCell ⟨W, 4, none⟩ (.slice (some ⟨g, 0, none⟩) (i + 1) cap)).heap[b]? = w3.heap[b]? := fun b hb => Below.heap_setCell _ _ _ _ hb
  refine ⟨by omega, ?_, ?_, ?_, ?_, ?_⟩
  · refine Kp.setN ⟨H.kp.bel.trans (hall.mono (by omega)), by omega, fun k a1 a2 => ?_⟩ _
    rw [hall.block k (by omega)]
    exact H.kp.block k a1 a2
  · have h0 : w3.rowIs W 25 5 (hdAt ⟨hw.k, hw.n, hw.s, hw.A, hw.la, hw.lc, F', i, d'⟩) := rowIs_below' (B := 0) H.row (hall.block W (by omega))
    refine (h0.set 4 _).congr (fun j hj => ?_)
    match j, hj with
    | 0, _ => rfl
    | 1, _ => rfl
    | 2, _ => rfl
    | 3, _ => rfl
    | 4, _ => rfl
  · refine own_base (own_block hown fun b hb => set_blk b ?_) (by omega)
    simp only [Value.ownBlock, Option.some.injEq] at hb
    omega
  · rw [srtP_step hx]
    exact putP_fst H.keys
  · rw [srtP_step hx]
    refine putP_rel (R := fun p v => Lies _ _ p.2 v.2) H.keys.symm (fun j p v hp hv => ?_) ?_
    · refine Lies.keep (fun q (a1 : wd.heap.size ≤ q.block) a2 => World.cell?_of_block ?_) (fun b hb _ => hb) _ _ (H.lie j p v hp hv)
      rw [set_blk _ (by omega)]
      exact hall.block _ a2
    · refine Lies.keep (fun q (a1 : wr.heap.size ≤ q.block) a2 => World.cell?_of_block ?_) (fun b (a1 : wr.heap.size ≤ b) _ => ?_) _ _ HA.lie
      · rw [set_blk _ (by omega), h3.block _ (by omega), hq.block _ a2]
      · show wd.heap.size ≤ b
        omega
/-- What the round's statements read, behind the search. -/
theorem put_flat {vs : List (ByteArray × Hd)} {key : ByteArray} {h' : Hd} {k : Nat} (hk : k = plc (vs.map Prod.fst) key) : ([] ++ (vs.take k).flatMap pcells ++ pcells (key, h') ++ (vs.drop k).flatMap pcells) = (putP vs (key, h')).flatMap pcells := by
  subst hk
  simp [putP, List.flatMap_append, List.flatMap_cons, List.append_assoc]
theorem aft_cells {wr wp wq w1 : World} {P : Nat} {key : ByteArray} {y : Va} {h' : Hd} (HA : AftP wr P key y h' wp) (hq : Below wp.heap.size wp wq) (hg : wq.grownBy w1 none) :
    w1.cell? ⟨P, 0, none⟩ = some (.string key) ∧ w1.cell? ⟨P, 1, none⟩ = some (.int .i64 h'.k) ∧ w1.cell? ⟨P, 2, none⟩ = some (.int .i64 h'.n) ∧ w1.cell? ⟨P, 3, none⟩ = some (.string h'.s) ∧ w1.cell? ⟨P, 4, none⟩ = some (.slice h'.A h'.la h'.lc) ∧ w1.cell? ⟨P, 5, none⟩ = some (.slice h'.F h'.lf h'.fc) := by
  have hlt := HA.lt
  have hs := hq.size
  have hb : w1.heap[P]? = wp.heap[P]? := (hg.block P (by omega) (by simp)).trans (hq.block P hlt)
  have hc : ∀ (j : Nat) c, (pcells (key, h'))[j]? = some c → w1.cell? ⟨P, j, none⟩ = some c := fun j c hj => (World.cell?_of_block (a := ⟨P, j, none⟩) hb).trans (HA.cel j c hj)
  exact ⟨hc 0 _ rfl, hc 1 _ rfl, hc 2 _ rfl, hc 3 _ rfl, hc 4 _ rfl, hc 5 _ rfl⟩
theorem grow_two {wq w1 w2 : World} {o : Obj} {v1 : Value} (g1 : wq.grownBy w1 none) (a1 : v1.ownBlock = none ∨ v1.ownBlock = some wq.heap.size) (g2 : (w1.alloc o).grownBy w2 v1.ownBlock) : Below wq.heap.size wq w2 := by
  have hb1 : Below wq.heap.size wq w1 := (Below.refl _ _).grown g1 (Nat.le_refl _) (fun k hk => by cases hk)
  refine (hb1.alloc g1.size o).grown g2 (by have := g1.size; simp; omega) (fun k hk => ?_)
  rcases a1 with e | e
  · rw [e] at hk; cases hk
  · rw [e] at hk
    cases hk
    exact Nat.le_refl _
theorem grow_three {wq w1 w2 w3 : World} {o : Obj} {v1 v2 : Value} (g1 : wq.grownBy w1 none) (a1 : v1.ownBlock = none ∨ v1.ownBlock = some wq.heap.size) (g2 : (w1.alloc o).grownBy w2 v1.ownBlock) (a2 : v2.ownBlock = v1.ownBlock ∨ v2.ownBlock = some (w1.alloc o).heap.size) (g3 : w2.grownBy w3 v2.ownBlock) : Below wq.heap.size wq w3 := by
  have h2 := grow_two g1 a1 g2
  refine h2.grown g3 h2.size (fun k hk => ?_)
  rcases a2 with e | e
  · rw [e] at hk
    rcases a1 with e | e
    · rw [e] at hk; cases hk
    · rw [e] at hk
      cases hk
      exact Nat.le_refl _
  · rw [e] at hk
    cases hk
    have := g1.size
    simp
    omega
/-- What is read of the old row behind the search. -/
theorem old_cells {wd wr wp wq w1 : World} {W i P d' : Nat} {hw : Hd} {qs : List (ByteArray × Va)} {vs : List (ByteArray × Hd)} {ad : Addr} {key : ByteArray} {y : Va} {h' : Hd} (H : LoopG wd W hw qs i wr vs (some ad) d') (HA : AftP wr P key y h' wp) (hq : Below wp.heap.size wp wq) (h1 : Below wq.heap.size wq w1) :
    ∀ j u, (vs.flatMap pcells)[j]? = some u → w1.cell? (ad.add j) = some u := fun j u hj => by
  have hlt := HA.bel.size
  have hs := hq.size
  have hc : wr.cell? (ad.add j) = some u := by
    rcases H.own.2 with ⟨hv, _⟩ | ⟨g, cap, cur, hv, _⟩
    · cases hv
    · cases hv
      exact H.own.cells rfl j u hj
  have hb := World.block_lt_of_cell? _ _ hc
  rw [h1.cell (p := ad.add j) (by omega), hq.cell (p := ad.add j) (by omega), HA.bel.cell (p := ad.add j) hb]
  exact hc
theorem old_F {wd wr wp wq w1 : World} {W i P d' : Nat} {hw : Hd} {qs : List (ByteArray × Va)} {vs : List (ByteArray × Hd)} {F' : Option Addr} {key : ByteArray} {y : Va} {h' : Hd} (H : LoopG wd W hw qs i wr vs F' d') (HA : AftP wr P key y h' wp) (hq : Below wp.heap.size wp wq) (h1 : Below wq.heap.size wq w1) :
    w1.cell? ⟨W, 4, none⟩ = some (.slice F' i d') ∧ w1.frozen? ⟨W, 4, none⟩ = false := by
  have hlt := HA.bel.size
  have hs := hq.size
  have hW := H.row.lt
  have hb : w1.heap[W]? = wr.heap[W]? := by rw [h1.block W (by omega), hq.block W (by omega), HA.bel.block W hW]
  exact ⟨(World.cell?_of_block (a := ⟨W, 4, none⟩) hb).trans (H.row.cell (show 4 < 5 by decide)), (World.frozen?_of_block (a := ⟨W, 4, none⟩) hb).trans (H.row.frozen 4)⟩
theorem own_cap {w : World} {base : Nat} {e : TypeId} {size n c : Nat} {A : Option Addr} {xs : List Value} (h : w.ownsRow base e size (.slice A n c) n xs) : n ≤ c ∧ c ≤ maxLen := by
  rcases h.2 with ⟨hv, h0⟩ | ⟨g, cap, cur, hv, _, _, h1, h2, _⟩
  · cases hv
    exact ⟨Nat.le_refl _, by decide⟩
  · cases hv
    exact ⟨h1, h2⟩
theorem own_none {w : World} {base : Nat} {e : TypeId} {size n c : Nat} {xs : List Value} (h : w.ownsRow base e size (.slice none n c) n xs) : n = 0 ∧ c = 0 := by
  rcases h.2 with ⟨hv, h0⟩ | ⟨g, cap, cur, hv, _⟩
  · cases hv
    exact ⟨rfl, rfl⟩
  · cases hv
theorem mem_putP {α : Type} {acc : List (ByteArray × α)} {p x : ByteArray × α} (h : x ∈ putP acc p) : x = p ∨ x ∈ acc := by
  simp only [putP, List.mem_append, List.mem_cons] at h
  rcases h with h | h | h
  · exact .inr (List.mem_of_mem_take h)
  · exact .inl h
  · exact .inr (List.mem_of_mem_drop h)
theorem mem_foldP {α : Type} {x : ByteArray × α} : ∀ (ps acc : List (ByteArray × α)), x ∈ ps.foldl putP acc → x ∈ acc ∨ x ∈ ps
  | [], acc, h => .inl h
  | p :: r, acc, h => by
    rw [List.foldl_cons] at h
    rcases mem_foldP r _ h with h | h
    · rcases mem_putP h with rfl | h
      · exact .inr (List.mem_cons_self ..)
      · exact .inl h
    · exact .inr (List.mem_cons_of_mem _ h)
theorem mem_srtP {α : Type} {x : ByteArray × α} {ps : List (ByteArray × α)} (h : x ∈ srtP ps) : x ∈ ps := by
  rcases mem_foldP ps [] h with h | h
  · simp at h
  · exact h
theorem zip_pairs {α β : Type} : ∀ (vs : List (α × β)), (vs.map Prod.fst).zip (vs.map Prod.snd) = vs
  | [] => rfl
  | x :: r => by simp [zip_pairs r]
/-- The end of Sorted: what was made lies. -/
theorem srt_done {w wc wd wr : World} {W : Nat} {hk hnn : Int} {hs : ByteArray} {l : List Va} {ks : List ByteArray} {f : List Va} {A' F' : Option Addr} {c' d' : Nat} {us : List Hd} {vs : List (ByteArray × Hd)} {h0 : Hd} {S : Nat → Prop}
    (H0 : Lies w S (.mk hk hnn hs l ks f) h0) (HL : LoopA wc W hk hnn hs (srtL l) l.length wd us A' c') (HG : LoopG wd W ⟨hk, hnn, hs, A', l.length, c', none, 0, 0⟩ (ks.zip (srtL f)) f.length wr vs F' d') (hW : W < wc.heap.size) :
    Lies wr (fun b => wc.heap.size ≤ b) (Va.mk hk hnn hs l ks f).srt ⟨hk, hnn, hs, A', l.length, c', F', f.length, d'⟩ := by
  simp only [Lies] at H0
  obtain ⟨⟨_, _, _, _, _, e6⟩, ⟨b1, b2, b3, b4, b5, b6, _, _⟩, _, _⟩ := H0
  have hzl : (ks.zip (srtL f)).length = f.length := by rw [List.length_zip, srtL_length, e6, Nat.min_self]
  have htk : (ks.zip (srtL f)).take f.length = ks.zip (srtL f) := List.take_of_length_le (by omega)
  have hkeys := HG.keys
  have hlie := HG.lie
  have hvl := HG.len
  rw [htk] at hkeys hlie
  have s1 := HL.kp.size
  have s2 := HG.kp.size
  have hmem : ∀ x ∈ (srtP (ks.zip (srtL f))).map Prod.fst, x.size ≤ maxLen := fun x hx => by
    obtain ⟨p, hp, rfl⟩ := List.mem_map.1 hx
    exact b4 _ (List.of_mem_zip (mem_srtP hp)).1
  have hsl : (srtP (ks.zip (srtL f))).length = f.length := by rw [srtP_length, hzl]
  have c1 := (own_cap HL.own).1
  have c2 := (own_cap HG.own).1
  unfold Va.srt
  simp only [Lies]
  refine ⟨⟨trivial, trivial, trivial, (srtL_length l).symm, by rw [List.length_map, hsl], by rw [List.length_map, List.length_map]⟩, ⟨b1, b2, b3, hmem, by rw [srtL_length]; exact b5, by rw [List.length_map, hsl]; exact b6, by rw [srtL_length]; exact c1, by rw [List.length_map, hsl]; exact c2⟩, ⟨us, ?_, ?_⟩, ⟨vs.map Prod.snd, ?_, ?_⟩⟩
  · refine row_of_own Hd.cells us cells_len (own_block HL.own fun g hg => ?_) (fun g hg => (own_lo HL.own hg).1) (.inr (by decide))
    have := own_lo HL.own hg
    exact HG.kp.block g (by omega) (by omega)
  · have htl : (srtL l).take l.length = srtL l := List.take_of_length_le (by rw [srtL_length]; omega)
    have hp := HL.part
    rw [htl] at hp
    refine LiesL_mk hp.len fun i x u hx hu => Lies.keep (fun q (a1 : wc.heap.size ≤ q.block ∧ _) a2 => World.cell?_of_block ?_) (fun b hb _ => hb.1) _ _ (hp.lie i x u hx hu)
    have := a1.1
    exact HG.kp.block _ (by omega) a2
  · rw [← hkeys, zip_pairs]
    refine row_of_own pcells vs pcells_len HG.own (fun g hg => ?_) (.inr (by decide))
    have := (own_lo HG.own hg).1
    show wc.heap.size ≤ g
    omega
  · refine LiesL_mk (by rw [List.length_map, List.length_map, hvl, hsl]) fun i x u hx hu => ?_
    rw [List.getElem?_map, Option.map_eq_some_iff] at hx hu
    obtain ⟨p, hp, rfl⟩ := hx
    obtain ⟨v, hv, rfl⟩ := hu
    exact Lies.keep (fun _ _ _ => rfl) (fun b (hb : wd.heap.size ≤ b) _ => (show wc.heap.size ≤ b by omega)) _ _ (hlie i p v hp hv)
end Go.Proofs.Ytmdlcalnncncjaa

/- slices.Grow and slices.Concat, of values and of pairs. -/
set_option linter.unusedVariables false
set_option linter.unusedSimpArgs false
namespace Go.Proofs.Ytmdlcalnncncjaa
open Go.RowKit
theorem own_slice {w : World} {base : Nat} {e : TypeId} {size n : Nat} {v : Value} {xs : List Value} (h : w.ownsRow base e size v n xs) : ∃ A c, v = .slice A n c := by
  rcases h.2 with ⟨rfl, rfl⟩ | ⟨g, cap, cur, rfl, _⟩
  · exact ⟨none, 0, rfl⟩
  · exact ⟨_, _, rfl⟩
/-- What Grow answers, of nothing. -/
def GrowR (t : TypeId) (size : Nat) (w : World) (e : Ending) (w' : World) : Prop := ∃ A' c', e = .returned (.slice A' 0 c') ∧ w'.ownsRow w.heap.size t size (.slice A' 0 c') 0 [] ∧ Below w.heap.size w w'
/-- What Concat answers. -/
def CatR (t : TypeId) (size n : Nat) (xs : List Value) (w : World) (e : Ending) (w' : World) : Prop := ∃ A' c', e = .returned (.slice A' n c') ∧ w'.ownsRow w.heap.size t size (.slice A' n c') n xs ∧ Below w.heap.size w w'
/-- Cells that lie at an address, if there are some. -/
def SrcAt (w : World) (B : Option Addr) (m : Nat) (news : List Value) : Prop := (∃ ad, B = some ad ∧ ∀ (j : Nat) u, news[j]? = some u → w.cell? (ad.add j) = some u) ∨ (B = none ∧ m = 0 ∧ news = [])
theorem SrcAt.below {w w' : World} {B : Option Addr} {m M : Nat} {news : List Value} (h : SrcAt w B m news) (hb : Below M w w') (hM : w.heap.size ≤ M) : SrcAt w' B m news := by
  rcases h with ⟨ad, e, h⟩ | h
  · refine .inl ⟨ad, e, fun j u hu => ?_⟩
    have h1 := h j u hu
    have := World.block_lt_of_cell? w _ h1
    rw [hb.cell (by omega)]
    exact h1
  · exact .inr h
set_option maxHeartbeats 2000000 in
set_option maxRecDepth 100000 in
theorem growV (n : Nat) (hn : n ≤ 100000) (w : World) : Calls Try.prog 117 #[.slice none 0 0, .int .i64 n] w fun e w' => GrowR 25 5 w e w' := by
  by_cases h0 : n = 0
  · subst h0
    go_enter Try.func117, Try.ntmps117
    go_wp2_with fail
    go_ret
    exact ⟨none, 0, rfl, World.ownsRow_nil _ _ _ _, Below.refl _ _⟩
  obtain ⟨i0, hi0, hz0, hz1, hz2⟩ := info_parts info25
  have hold : (Builtin.firstCells i0.size 0 (.slice none 0 0)).run Try.prog w.drew = .ok #[] w.drew := run_firstCells_none w.drew i0.size 0 0 0
  have hfit : Builtin.nextslicecap (0 + n) 0 * i0.bytes ≤ 281474976710656 := growslice_fits (by omega) (by rw [hz2]; omega)
  have hrz : ∀ tt, (Builtin.append_ #[22, 3] tt #[.slice none 0 0, .int .i64 n]).run Try.prog w = .ok (.slice (some ⟨w.heap.size, 0, none⟩) (0 + n) (grownCap w (0 + n) 0 25)) (w.drew.alloc (.cells (#[] ++ Builtin.zeroCells _ n ++ Builtin.zeroCells _ (grownCap w (0 + n) 0 25 - (0 + n))) 25)) := fun tt =>
    Lib.run_append_grow_zeros w 22 3 tt 25 i0 _ .i64 .i64 Try.underlying22 Try.underlying3 hi0 hz0 none 0 0 [] hold n (by omega) (by rw [hz1]; decide) (by omega) (by omega) (by rw [hz2]; omega) hfit
  simp only [Nat.zero_add] at hrz
  have hG := grownCap_ge w n 0 25
  have hG2 := grownCap_le_maxLen w n 0 25 (by unfold maxLen; omega)
  obtain ⟨G, hGe⟩ : ∃ G, G = grownCap w n 0 25 := ⟨_, rfl⟩
  rw [← hGe] at hrz hG hG2
  have HG2 := Lib.hid hG2
  have hG63 : G ≤ 9223372036854775807 := by unfold maxLen at hG2; omega
  clear hold hfit hGe hG2
  have h4 : 0 < n := by omega
  go_enter Try.func117, Try.ntmps117
  go_wp2_with (at_builtin; refine Lib.wpList_append_run _ rfl _ _ _ _ rfl _ _ rfl rfl _ _ (hrz _) ?_)
  go_ret
  refine ⟨_, _, rfl, ⟨rfl, .inr ⟨w.heap.size, G, _, rfl, Nat.le_refl _, heap_alloc_new w.drew _, Nat.zero_le _, HG2.out, ?_, by simp⟩⟩, ((Below.refl _ _).drew).alloc (Nat.le_refl _) _⟩
  rw [Array.size_append, size_zeroCells, size_zeroCells]
  simp only [List.size_toArray, List.length_cons, List.length_nil]
  omega
set_option maxHeartbeats 4000000 in
set_option maxRecDepth 100000 in
theorem concatV (A1 A2 : Option Addr) (n1 n2 c1 c2 bc : Nat) (ad : Addr) (xs ys : List Value) (w : World) (h0 : w.cell? ad = some (.slice A1 n1 c1)) (h1 : w.cell? ⟨ad.block, ad.off + 1, none⟩ = some (.slice A2 n2 c2)) (hn1 : n1 ≤ 10000) (hn2 : n2 ≤ 10000) (hx : SrcAt w A1 n1 xs) (hy : SrcAt w A2 n2 ys) (hxl : xs.length = n1 * 5) (hyl : ys.length = n2 * 5) (hx1 : ∀ u ∈ xs, u.oneCell' = true) (hy1 : ∀ u ∈ ys, u.oneCell' = true) :
    Calls Try.prog 94 #[.slice (some ad) 2 2] w fun e w' => CatR 25 5 (n1 + n2) (xs ++ ys) w e w' := by
  have HX := Lib.hid hx
  have HY := Lib.hid hy
  have HXL := Lib.hid hxl
  have HYL := Lib.hid hyl
  have HX1 := Lib.hid hx1
  have HY1 := Lib.hid hy1
  obtain ⟨i0, hi0, hz0, hz1, hz2⟩ := info_parts info25
  have hab := World.block_lt_of_cell? w _ h0
  clear hx hy hxl hyl hx1 hy1
  go_enter Try.func94, Try.ntmps94
  go_wp2_with fail
  go_loopw [3, 11] (fun sv iv wr => w = wr ∧ ((iv = .int .i64 0 ∧ sv = .int .i64 0) ∨ (iv = .int .i64 1 ∧ sv = .int .i64 n1) ∨ (iv = .int .i64 2 ∧ sv = .int .i64 (n1 + n2 : Nat)))) (fun _ iv _ => 2 - (intOf iv).toNat)
  case atStart => exact ⟨rfl, .inl ⟨rfl, rfl⟩⟩
  case round =>
    obtain ⟨rfl, ⟨rfl, rfl⟩ | ⟨rfl, rfl⟩ | ⟨rfl, rfl⟩⟩ := hrel
    · go_wp2_with fail
      exact ⟨⟨trivial, .inr (.inl ⟨rfl, rfl⟩)⟩, by decide⟩
    · go_wp2_with fail
      exact ⟨⟨trivial, .inr (.inr ⟨rfl, by go_num⟩)⟩, by decide⟩
    · have K := Lib.hid (growV (n1 + n2) (by omega) w)
      go_wp2_with fail
      refine K.out.mono ?_
      rintro e w1 ⟨A', c', rfl, hown, hb1⟩
      have HG := Lib.hid hown
      have HB1 := Lib.hid hb1
      clear hown hb1 K
      go_wp2_with fail
      go_loopw [6, 27] (fun nv iv wr => ∃ (v : Value) (k : Nat) (zs : List Value), v = nv ∧ ((iv = .int .i64 0 ∧ k = 0 ∧ zs = []) ∨ (iv = .int .i64 1 ∧ k = n1 ∧ zs = xs) ∨ (iv = .int .i64 2 ∧ k = n1 + n2 ∧ zs = xs ++ ys)) ∧ wr.ownsRow w.heap.size 25 5 v k zs ∧ Below w.heap.size w wr) (fun _ iv _ => 2 - (intOf iv).toNat)
      case atStart => exact ⟨_, 0, [], rfl, .inl ⟨rfl, rfl, rfl⟩, HG.out, HB1.out⟩
      case round =>
        obtain ⟨v, k, zs, rfl, ⟨rfl, rfl, rfl⟩ | ⟨rfl, rfl, rfl⟩ | ⟨rfl, rfl, rfl⟩, ho, hbw⟩ := hrel
        · have HO := Lib.hid ho
          have HB := Lib.hid hbw
          have q0 := (hbw.cell hab).trans h0
          clear ho hbw
          go_wp2_with (at_builtin; refine wpList_append_may wr rfl _ _ 22 rfl w.heap.size 25 i0 _ 5 80 Try.underlying22 hi0 hz0 hz1 hz2 rfl (by decide) v 0 [] rfl HO.out A1 n1 c1 xs rfl HXL.out (HX.out.below HB.out (Nat.le_refl _)) HX1.out (by unfold maxLen; omega) (by omega) HB.out.size ?_; intro v' w3 hown3 hgrow3 hat3)
          refine ⟨⟨v', n1, xs, rfl, .inr (.inl ⟨rfl, rfl, rfl⟩), by simpa using hown3, HB.out.grown hgrow3 HB.out.size (fun g hg => (own_lo HO.out hg).1)⟩, by decide⟩
        · have HO := Lib.hid ho
          have HB := Lib.hid hbw
          have q1 := (hbw.cell (p := ⟨ad.block, ad.off + 1, none⟩) hab).trans h1
          clear ho hbw
          go_wp2_with (at_builtin; refine wpList_append_may wr rfl _ _ 22 rfl w.heap.size 25 i0 _ 5 80 Try.underlying22 hi0 hz0 hz1 hz2 rfl (by decide) v k zs rfl HO.out A2 n2 c2 ys rfl HYL.out (HY.out.below HB.out (Nat.le_refl _)) HY1.out (by unfold maxLen; omega) (by omega) HB.out.size ?_; intro v' w3 hown3 hgrow3 hat3)
          refine ⟨⟨v', _, _, rfl, .inr (.inr ⟨rfl, rfl, rfl⟩), hown3, HB.out.grown hgrow3 HB.out.size (fun g hg => (own_lo HO.out hg).1)⟩, by decide⟩
        · obtain ⟨A3, c3, rfl⟩ := own_slice ho
          have HO := Lib.hid ho
          have HB := Lib.hid hbw
          clear ho hbw
          go_wp2_with fail
          go_ret
          exact ⟨A3, c3, rfl, HO.out, HB.out⟩
/-- Where the cells of a source lie. -/
theorem src_belowV {w w' : World} {B : Option Addr} {m M : Nat} {news : List Value} (h : SrcAt w B m news) (hb : Below M w w') (hM : w.heap.size ≤ M) : SrcAt w' B m news := h.below hb hM
set_option maxHeartbeats 2000000 in
set_option maxRecDepth 100000 in
theorem growF (n : Nat) (hn : n ≤ 100000) (w : World) : Calls Try.prog 116 #[.slice none 0 0, .int .i64 n] w fun e w' => GrowR 36 6 w e w' := by
  by_cases h0 : n = 0
  · subst h0
    go_enter Try.func116, Try.ntmps116
    go_wp2_with fail
    go_ret
    exact ⟨none, 0, rfl, World.ownsRow_nil _ _ _ _, Below.refl _ _⟩
  obtain ⟨i0, hi0, hz0, hz1, hz2⟩ := info_parts info36
  have hold : (Builtin.firstCells i0.size 0 (.slice none 0 0)).run Try.prog w.drew = .ok #[] w.drew := run_firstCells_none w.drew i0.size 0 0 0
  have hfit : Builtin.nextslicecap (0 + n) 0 * i0.bytes ≤ 281474976710656 := growslice_fits (by omega) (by rw [hz2]; omega)
  have hrz : ∀ tt, (Builtin.append_ #[23, 3] tt #[.slice none 0 0, .int .i64 n]).run Try.prog w = .ok (.slice (some ⟨w.heap.size, 0, none⟩) (0 + n) (grownCap w (0 + n) 0 36)) (w.drew.alloc (.cells (#[] ++ Builtin.zeroCells _ n ++ Builtin.zeroCells _ (grownCap w (0 + n) 0 36 - (0 + n))) 36)) := fun tt =>
    Lib.run_append_grow_zeros w 23 3 tt 36 i0 _ .i64 .i64 Try.underlying23 Try.underlying3 hi0 hz0 none 0 0 [] hold n (by omega) (by rw [hz1]; decide) (by omega) (by omega) (by rw [hz2]; omega) hfit
  simp only [Nat.zero_add] at hrz
  have hG := grownCap_ge w n 0 36
  have hG2 := grownCap_le_maxLen w n 0 36 (by unfold maxLen; omega)
  obtain ⟨G, hGe⟩ : ∃ G, G = grownCap w n 0 36 := ⟨_, rfl⟩
  rw [← hGe] at hrz hG hG2
  have HG2 := Lib.hid hG2
  have hG63 : G ≤ 9223372036854775807 := by unfold maxLen at hG2; omega
  clear hold hfit hGe hG2
  have h4 : 0 < n := by omega
  go_enter Try.func116, Try.ntmps116
  go_wp2_with (at_builtin; refine Lib.wpList_append_run _ rfl _ _ _ _ rfl _ _ rfl rfl _ _ (hrz _) ?_)
  go_ret
  refine ⟨_, _, rfl, ⟨rfl, .inr ⟨w.heap.size, G, _, rfl, Nat.le_refl _, heap_alloc_new w.drew _, Nat.zero_le _, HG2.out, ?_, by simp⟩⟩, ((Below.refl _ _).drew).alloc (Nat.le_refl _) _⟩
  rw [Array.size_append, size_zeroCells, size_zeroCells]
  simp only [List.size_toArray, List.length_cons, List.length_nil]
  omega
set_option maxHeartbeats 4000000 in
set_option maxRecDepth 100000 in
theorem concatF (A1 A2 : Option Addr) (n1 n2 c1 c2 bc : Nat) (ad : Addr) (xs ys : List Value) (w : World) (h0 : w.cell? ad = some (.slice A1 n1 c1)) (h1 : w.cell? ⟨ad.block, ad.off + 1, none⟩ = some (.slice A2 n2 c2)) (hn1 : n1 ≤ 10000) (hn2 : n2 ≤ 10000) (hx : SrcAt w A1 n1 xs) (hy : SrcAt w A2 n2 ys) (hxl : xs.length = n1 * 6) (hyl : ys.length = n2 * 6) (hx1 : ∀ u ∈ xs, u.oneCell' = true) (hy1 : ∀ u ∈ ys, u.oneCell' = true) :
    Calls Try.prog 92 #[.slice (some ad) 2 2] w fun e w' => CatR 36 6 (n1 + n2) (xs ++ ys) w e w' := by
  have HX := Lib.hid hx
  have HY := Lib.hid hy
  have HXL := Lib.hid hxl
  have HYL := Lib.hid hyl
  have HX1 := Lib.hid hx1
  have HY1 := Lib.hid hy1
  obtain ⟨i0, hi0, hz0, hz1, hz2⟩ := info_parts info36
  have hab := World.block_lt_of_cell? w _ h0
  clear hx hy hxl hyl hx1 hy1
  go_enter Try.func92, Try.ntmps92
  go_wp2_with fail
  go_loopw [3, 11] (fun sv iv wr => w = wr ∧ ((iv = .int .i64 0 ∧ sv = .int .i64 0) ∨ (iv = .int .i64 1 ∧ sv = .int .i64 n1) ∨ (iv = .int .i64 2 ∧ sv = .int .i64 (n1 + n2 : Nat)))) (fun _ iv _ => 2 - (intOf iv).toNat)
  case atStart => exact ⟨rfl, .inl ⟨rfl, rfl⟩⟩
  case round =>
    obtain ⟨rfl, ⟨rfl, rfl⟩ | ⟨rfl, rfl⟩ | ⟨rfl, rfl⟩⟩ := hrel
    · go_wp2_with fail
      exact ⟨⟨trivial, .inr (.inl ⟨rfl, rfl⟩)⟩, by decide⟩
    · go_wp2_with fail
      exact ⟨⟨trivial, .inr (.inr ⟨rfl, by go_num⟩)⟩, by decide⟩
    · have K := Lib.hid (growF (n1 + n2) (by omega) w)
      go_wp2_with fail
      refine K.out.mono ?_
      rintro e w1 ⟨A', c', rfl, hown, hb1⟩
      have HG := Lib.hid hown
      have HB1 := Lib.hid hb1
      clear hown hb1 K
      go_wp2_with fail
      go_loopw [6, 27] (fun nv iv wr => ∃ (v : Value) (k : Nat) (zs : List Value), v = nv ∧ ((iv = .int .i64 0 ∧ k = 0 ∧ zs = []) ∨ (iv = .int .i64 1 ∧ k = n1 ∧ zs = xs) ∨ (iv = .int .i64 2 ∧ k = n1 + n2 ∧ zs = xs ++ ys)) ∧ wr.ownsRow w.heap.size 36 6 v k zs ∧ Below w.heap.size w wr) (fun _ iv _ => 2 - (intOf iv).toNat)
      case atStart => exact ⟨_, 0, [], rfl, .inl ⟨rfl, rfl, rfl⟩, HG.out, HB1.out⟩
      case round =>
        obtain ⟨v, k, zs, rfl, ⟨rfl, rfl, rfl⟩ | ⟨rfl, rfl, rfl⟩ | ⟨rfl, rfl, rfl⟩, ho, hbw⟩ := hrel
        · have HO := Lib.hid ho
          have HB := Lib.hid hbw
          have q0 := (hbw.cell hab).trans h0
          clear ho hbw
          go_wp2_with (at_builtin; refine wpList_append_may wr rfl _ _ 23 rfl w.heap.size 36 i0 _ 6 96 Try.underlying23 hi0 hz0 hz1 hz2 rfl (by decide) v 0 [] rfl HO.out A1 n1 c1 xs rfl HXL.out (HX.out.below HB.out (Nat.le_refl _)) HX1.out (by unfold maxLen; omega) (by omega) HB.out.size ?_; intro v' w3 hown3 hgrow3 hat3)
          refine ⟨⟨v', n1, xs, rfl, .inr (.inl ⟨rfl, rfl, rfl⟩), by simpa using hown3, HB.out.grown hgrow3 HB.out.size (fun g hg => (own_lo HO.out hg).1)⟩, by decide⟩
        · have HO := Lib.hid ho
          have HB := Lib.hid hbw
          have q1 := (hbw.cell (p := ⟨ad.block, ad.off + 1, none⟩) hab).trans h1
          clear ho hbw
          go_wp2_with (at_builtin; refine wpList_append_may wr rfl _ _ 23 rfl w.heap.size 36 i0 _ 6 96 Try.underlying23 hi0 hz0 hz1 hz2 rfl (by decide) v k zs rfl HO.out A2 n2 c2 ys rfl HYL.out (HY.out.below HB.out (Nat.le_refl _)) HY1.out (by unfold maxLen; omega) (by omega) HB.out.size ?_; intro v' w3 hown3 hgrow3 hat3)
          refine ⟨⟨v', _, _, rfl, .inr (.inr ⟨rfl, rfl, rfl⟩), hown3, HB.out.grown hgrow3 HB.out.size (fun g hg => (own_lo HO.out hg).1)⟩, by decide⟩
        · obtain ⟨A3, c3, rfl⟩ := own_slice ho
          have HO := Lib.hid ho
          have HB := Lib.hid hbw
          clear ho hbw
          go_wp2_with fail
          go_ret
          exact ⟨A3, c3, rfl, HO.out, HB.out⟩
/-- Where the cells of a source lie. -/
theorem src_belowF {w w' : World} {B : Option Addr} {m M : Nat} {news : List Value} (h : SrcAt w B m news) (hb : Below M w w') (hM : w.heap.size ≤ M) : SrcAt w' B m news := h.below hb hM
end Go.Proofs.Ytmdlcalnncncjaa

/- path.Add. -/
set_option linter.unusedVariables false
set_option linter.unusedSimpArgs false
namespace Go.Proofs.Ytmdlcalnncncjaa
open Go.RowKit
/-- Values in a row, as a value that holds them. -/
abbrev lsVa (ins : List Va) : Va := .mk 0 0 ByteArray.empty ins [] []
abbrev lsHd (B : Option Addr) (n c : Nat) : Hd := ⟨0, 0, ByteArray.empty, B, n, c, none, 0, 0⟩
def Va.kd : Va → Int
  | .mk k _ _ _ _ _ => k
/-- A list with values behind its own. -/
def addV : Va → List Va → Va
  | .mk _ _ _ l _ _, ins => .mk 4 0 ByteArray.empty (l ++ ins) [] []
/-- What Add comes to. -/
def AddC (a : Va) (p : List St) (ins : List Va) (er : Int) (b : Va) : Prop :=
  (¬ AllR a p ins ∧ er = 1 ∧ b = zeroVa) ∨ (AllR a p ins ∧ goV a p = none ∧ er = 8 ∧ b = zeroVa) ∨ (∃ y, AllR a p ins ∧ goV a p = some y ∧ ¬ y.kd = 4 ∧ er = 9 ∧ b = zeroVa) ∨
  (∃ y, AllR a p ins ∧ goV a p = some y ∧ y.kd = 4 ∧ (putV a p (addV y ins)).R 12 ∧ er = 0 ∧ b = putV a p (addV y ins)) ∨ (∃ y, AllR a p ins ∧ goV a p = some y ∧ y.kd = 4 ∧ ¬ (putV a p (addV y ins)).R 12 ∧ er = 5 ∧ b = zeroVa)
theorem AddC.same {a : Va} {p : List St} {ins : List Va} {er er2 : Int} {b b2 : Va} (h1 : AddC a p ins er b) (h2 : AddC a p ins er2 b2) : er = er2 ∧ b = b2 := by
  unfold AddC at h1 h2
  rcases h1 with ⟨a1, a2, a3⟩ | ⟨a1, a0, a2, a3⟩ | ⟨y, a1, a0, ak, a2, a3⟩ | ⟨y, a1, a0, ak, ar, a2, a3⟩ | ⟨y, a1, a0, ak, ar, a2, a3⟩ <;>
    rcases h2 with ⟨b1, b2, b3⟩ | ⟨b1, b0, b2, b3⟩ | ⟨z, b1, b0, bk, b2, b3⟩ | ⟨z, b1, b0, bk, br, b2, b3⟩ | ⟨z, b1, b0, bk, br, b2, b3⟩
  all_goals first
    | exact absurd a1 b1
    | exact absurd b1 a1
    | (rw [a0] at b0; cases b0; done)
    | (rw [a0] at b0; injection b0 with b0; subst b0; first | exact absurd ak bk | exact absurd bk ak | exact absurd ar br | exact absurd br ar | exact ⟨by rw [a2, b2], by rw [a3, b3]⟩)
    | exact ⟨by rw [a2, b2], by rw [a3, b3]⟩
def AddQ (a : Va) (p : List St) (ins : List Va) (w : World) (e : Ending) (w' : World) : Prop := ∃ (b : Va) (h' : Hd) (er : Int), e = .returned (.tuple #[.agg #[.int .i64 h'.k, .int .i64 h'.n, .string h'.s, .slice h'.A h'.la h'.lc, .slice h'.F h'.lf h'.fc], .int .i64 er]) ∧ Below w.heap.size w w' ∧ Lies w' (fun _ => True) b h' ∧ AddC a p ins er b
theorem insAt_of {w : World} {S : Nat → Prop} {B : Option Addr} {n c : Nat} {ins : List Va} (H : Lies w S (lsVa ins) (lsHd B n c)) (hs : (lsVa ins).Sh) (hc : (lsVa ins).cnt ≤ 1000) : InsAt w B ins := by
  intro i x hx
  obtain ⟨ad, u, e, -, hb, hl, hat⟩ := H.op.L i x hx
  have hm := List.mem_of_getElem? hx
  refine ⟨ad, u, e, hb, Lies.keep (fun _ _ _ => rfl) (fun _ _ _ => trivial) _ _ hl, hat, ?_, ?_⟩
  · simp only [lsVa, Va.Sh] at hs
    exact ShL_mem hs.2.1 hm
  · simp only [lsVa, Va.cnt] at hc
    have := cntL_mem hm
    omega
theorem src_of_row {w : World} {S : Nat → Prop} {A : Option Addr} {us : List Hd} (h : RowAt w S 5 A (us.map Hd.cells)) : SrcAt w A us.length (us.flatMap Hd.cells) := by
  cases us with
  | nil =>
    cases A with
    | none => exact .inr ⟨rfl, rfl, rfl⟩
    | some ad => exact .inl ⟨ad, rfl, fun j u hu => by simp at hu⟩
  | cons u us =>
    obtain ⟨ad, e, -, hc⟩ := h (by simp)
    refine .inl ⟨ad, e, fun j c hj => ?_⟩
    have := row_news (w := w) (ad := ad) Hd.cells 5 cells_len (u :: us) 0 (fun i v hv j c hc2 => by rw [Nat.zero_add]; exact hc i v.cells (by rw [List.getElem?_map, hv]; rfl) j c hc2) j c hj
    rwa [Nat.zero_add] at this
theorem flat_lenL : ∀ us : List Hd, (us.flatMap Hd.cells).length = us.length * 5
  | [] => rfl
  | u :: us => by rw [List.flatMap_cons, List.length_append, flat_lenL us, cells_len, List.length_cons]; omega
theorem flat_oneL (us : List Hd) : ∀ u ∈ us.flatMap Hd.cells, u.oneCell' = true := by
  intro u hu
  obtain ⟨v, _, hv⟩ := List.mem_flatMap.1 hu
  simp only [Hd.cells, List.mem_cons, List.not_mem_nil, or_false] at hv
  rcases hv with rfl | rfl | rfl | rfl | rfl <;> rfl
/-- A right list. -/
theorem list_R {n : Int} {t : ByteArray} {l : List Va} {ks : List ByteArray} {f : List Va} {d : Nat} (h : (Va.mk 4 n t l ks f).R d) (hk : ks.length = f.length) : n = 0 ∧ t = ByteArray.empty ∧ ks = [] ∧ f = [] := by
  simp only [Va.R] at h
  obtain ⟨-, hT, -⟩ := h
  have hf : f = [] := by
    have := hT.c4
    cases f with
    | nil => rfl
    | cons a b => exact absurd ⟨by decide, by simp⟩ this
  subst hf
  refine ⟨?_, ?_, List.length_eq_zero_iff.1 (by simpa using hk), rfl⟩
  · have := hT.c1
    by_cases e : n = 0
    · exact e
    · exact absurd ⟨by decide, by decide, e⟩ this
  · have := hT.c2
    by_cases e : t.size = 0
    · exact empty_of e
    · exact absurd ⟨by decide, e⟩ this
/-- The joined list in memory. -/
theorem lies_join {w0 w6 w7 : World} {S : Nat → Prop} {l ins : List Va} {us vs : List Hd} {h' : Hd} {A' : Option Addr} {n c' base xb : Nat} (hk : h'.k = 4) (hn : h'.n = 0) (hs : h'.s = ByteArray.empty) (hlf : h'.lf = 0) (hn2 : n = (l ++ ins).length) (hlm : (l ++ ins).length ≤ maxLen)
    (hu : LiesL w0 S l us) (hv : LiesL w0 S ins vs) (hS : ∀ b, S b → b < w0.heap.size) (hS7 : ∀ b, S b → w7.heap[b]? = w0.heap[b]?) (hsz : w0.heap.size ≤ w7.heap.size) (h67 : w6.heap.size ≤ w7.heap.size) (hown : w6.ownsRow base 25 5 (.slice A' n c') n (us.flatMap Hd.cells ++ vs.flatMap Hd.cells)) (hxb : xb < base) (hb7 : ∀ b, b ≠ xb → b < w6.heap.size → w7.heap[b]? = w6.heap[b]?) :
    Lies w7 (fun b => b < w7.heap.size) (.mk 4 0 ByteArray.empty (l ++ ins) [] []) ⟨h'.k, h'.n, h'.s, A', n, c', h'.F, h'.lf, h'.fc⟩ := by
  have own7 : w7.ownsRow base 25 5 (.slice A' n c') n ((us ++ vs).flatMap Hd.cells) := own_block (by rw [List.flatMap_append]; exact hown) fun g hg => hb7 g (by have := (own_lo hown hg).1; omega) (own_lo hown hg).2
  have cap := own_cap own7
  unfold Lies
  refine ⟨⟨hk, hn, hs, hn2, hlf, rfl⟩, ⟨by decide, by decide, by decide, by simp, hlm, by decide, by show (l ++ ins).length ≤ c'; omega, Nat.zero_le _⟩, ⟨us ++ vs, row_of_own Hd.cells (us ++ vs) cells_len own7 (fun g hg => by have := (own_lo own7 hg).2; exact this) (.inr (by decide)), LiesL_mk (by simp [LiesL_len hu, LiesL_len hv]) fun i y u hy hu2 => ?_⟩, ⟨[], fun h => by simp at h, by unfold LiesL; rfl⟩⟩
  have hl := LiesL_len hu
  have hk2 : ∀ y u, Lies w0 S y u → Lies w7 (fun b => b < w7.heap.size) y u := fun y u h => Lies.keep (fun q hq _ => World.cell?_of_block (hS7 _ hq)) (fun b hb _ => by have := hS b hb; omega) y u h
  by_cases e : i < l.length
  · rw [List.getElem?_append_left e] at hy
    rw [List.getElem?_append_left (by omega)] at hu2
    obtain ⟨u', hu', hl'⟩ := LiesL_at hu hy
    rw [hu2] at hu'
    cases hu'
    exact hk2 y u hl'
  · rw [List.getElem?_append_right (by omega)] at hy
    rw [List.getElem?_append_right (by omega), hl] at hu2
    obtain ⟨u', hu', hl'⟩ := LiesL_at hv hy
    rw [hu2] at hu'
    cases hu'
    exact hk2 y u hl'
set_option maxHeartbeats 4000000 in
set_option maxRecDepth 100000 in
theorem add_prog (a : Va) (S S' : Nat → Prop) (h : Hd) (w : World) (A : Option Addr) (m c : Nat) (p : List St) (B : Option Addr) (bn bc : Nat) (ins : List Va) (H : Lies w S a h) (hsh : a.Sh) (hcn : a.cnt ≤ 200) (hA : PathAt w A p) (hm : m = p.length) (hc : m ≤ c) (hp : m ≤ 1000) (HI : Lies w S' (lsVa ins) (lsHd B bn bc)) (his : (lsVa ins).Sh) (hic : (lsVa ins).cnt ≤ 200) :
    Calls Try.prog 56 #[h.val, .slice A m c, .slice B bn bc] w fun e w' => AddQ a p ins w e w' := by
  have HS := Lib.hid (show Lies w (fun b => b < w.heap.size) a h from Lies.keep (fun _ _ _ => rfl) (fun b _ hb => hb) _ _ H)
  have HSI := Lib.hid (show Lies w (fun b => b < w.heap.size) (lsVa ins) (lsHd B bn bc) from Lies.keep (fun _ _ _ => rfl) (fun b _ hb => hb) _ _ HI)
  have HSH := Lib.hid hsh
  have HCN := Lib.hid hcn
  have HIS := Lib.hid his
  have HIC := Lib.hid hic
  have HA := Lib.hid hA
  have HM := Lib.hid hm
  have hbn : bn = ins.length := by simp only [lsVa, lsHd, Lies] at HI; exact HI.1.2.2.2.1
  have hil : ins.length ≤ 200 := by have := len_le_cntL ins; simp only [lsVa, Va.cnt] at hic; omega
  have HBN := Lib.hid hbn
  unfold Hd.val at *
  have hb2 := two_allocs w (Obj.cells #[.int .i64 h.k, .int .i64 h.n, .string h.s, .slice h.A h.la h.lc, .slice h.F h.lf h.fc] 25) (Obj.cells #[.int .i64 0, .int .i64 0, .string { data := #[] }, .slice none 0 0, .slice none 0 0] 25)
  have K1 := Lib.hid (target_any (fun b => b < w.heap.size) a h _ A m c p B bn bc ins (fun b hb => by simp; omega) (HS.out.below hb2 (Nat.le_refl _)) hsh (by omega) (hA.below hb2 (Nat.le_refl _)) hm hc hp ((insAt_of HI his (by omega)).below hb2 (Nat.le_refl _)) hbn (by omega))
  unfold Hd.val at K1
  have hbl : bn ≤ 200 := by omega
  clear H hsh hcn hA hb2 hm HI his hic hbn hil
  go_enter Try.func56, Try.ntmps56
  go_wp2_with fail
  refine K1.out.mono ?_
  rintro e w1 ⟨b, h', er, rfl, hb1, hl1, ho1⟩
  obtain ⟨hb2, hbx, hres, hsz⟩ := two_blocks hb1
  have HL1 := Lib.hid hl1
  have HO1 := Lib.hid ho1
  have HB := Lib.hid hb2
  have HRES := Lib.hid hres
  have HBX := Lib.hid hbx
  clear hb1 hb2 hbx hres hl1 ho1 K1
  go_upto_region 2 with fail
  have hb4 := one_alloc w1 (Obj.cells #[.int .i64 h'.k, .int .i64 h'.n, .string h'.s, .slice h'.A h'.la h'.lc, .slice h'.F h'.lf h'.fc] 25)
  have hcx : (w1.alloc (Obj.cells #[.int .i64 h'.k, .int .i64 h'.n, .string h'.s, .slice h'.A h'.la h'.lc, .slice h'.F h'.lf h'.fc] 25)).rowIs w1.heap.size 25 5 (hdAt h') := hdAt_row (heap_alloc_new _ _)
  generalize w1.alloc (Obj.cells #[.int .i64 h'.k, .int .i64 h'.n, .string h'.s, .slice h'.A h'.la h'.lc, .slice h'.F h'.lf h'.fc] 25) = w4 at hb4 hcx ⊢
  have HB4 := Lib.hid (HB.out.trans (hb4.mono HB.out.size))
  have HRES4 := Lib.hid (rowIs_below HRES.out hb4 (by omega))
  have HBX4 := Lib.hid (HBX.out.go hb4 HBX.out.1)
  have HL4 := Lib.hid (HL1.out.below hb4 (Nat.le_refl _))
  have HCX := Lib.hid hcx
  have hxl := hcx.lt
  have hs4 := hb4.size
  have x0 := hcx.cell (show 0 < 5 by decide)
  have x1 := hcx.cell (show 1 < 5 by decide)
  have x2 := hcx.cell (show 2 < 5 by decide)
  have x3 := hcx.cell (show 3 < 5 by decide)
  have x4 := hcx.cell (show 4 < 5 by decide)
  have f0 := hcx.frozen 0
  have f1 := hcx.frozen 1
  have f2 := hcx.frozen 2
  have f3 := hcx.frozen 3
  have f4 := hcx.frozen 4
  simp only [hdAt, Hd.cells, List.getD_cons_succ, List.getD_cons_zero] at x0 x1 x2 x3 x4
  clear hb4 hcx HB HRES HL1 HBX
  by_cases he : er = 0
  case neg =>
    have he' := bq_no he
    have HNO : Hid (AddC a p ins er zeroVa) := Lib.hid (by
      rcases HO1.out with ⟨h1, h2, _⟩ | ⟨h1, h2, _, h3⟩ | ⟨_, h1, _⟩
      · exact .inl ⟨h1, h2, rfl⟩
      · exact .inr (.inl ⟨h1, h3, h2, rfl⟩)
      · exact absurd h1 he)
    clear he
    have z0 := HRES4.out.cell (show 0 < 5 by decide)
    have z1 := HRES4.out.cell (show 1 < 5 by decide)
    have z2 := HRES4.out.cell (show 2 < 5 by decide)
    have z3 := HRES4.out.cell (show 3 < 5 by decide)
    have z4 := HRES4.out.cell (show 4 < 5 by decide)
    have g0 := HRES4.out.frozen 0
    have g1 := HRES4.out.frozen 1
    have g2 := HRES4.out.frozen 2
    have g3 := HRES4.out.frozen 3
    have g4 := HRES4.out.frozen 4
    simp only [hdAt, Hd.cells, List.getD_cons_succ, List.getD_cons_zero] at z0 z1 z2 z3 z4
    go_wp2_with fail
    refine bodyPost_ret (v := .tuple #[.agg #[.int .i64 0, .int .i64 0, .string ⟨#[]⟩, .slice none 0 0, .slice none 0 0], .int .i64 er]) (by simp [results, Try.results56, go_sem, z0, z1, z2, z3, z4]; try rfl) rfl ?_
    exact ⟨zeroVa, zeroHd, er, rfl, res_below HB4.out (Nat.le_succ _), lies_zero _ _, HNO.out⟩
  subst he
  have HYES : Hid (AllR a p ins ∧ goV a p = some b) := Lib.hid (by
    rcases HO1.out with ⟨_, h1, _⟩ | ⟨_, h1, _⟩ | ⟨h0, _, h1⟩
    · exact absurd h1 (by decide)
    · exact absurd h1 (by decide)
    · exact ⟨h0, h1⟩)
  clear HO1
  have HBR := Lib.hid (goV_R HYES.out.1.1 HYES.out.2)
  have HBS := Lib.hid (goV_sh HSH.out HYES.out.2)
  have HBC := Lib.hid (goV_cnt (Nat.le_trans HCN.out (by decide : 200 ≤ 1000)) HYES.out.2)
  have HBC2 := Lib.hid (goV_cnt HCN.out HYES.out.2)
  obtain ⟨bk, bnn, bs, l, ks, f⟩ := b
  have hL := HL4.out
  simp only [Lies] at hL
  obtain ⟨⟨e1, e2, e3, e4, e5, e6⟩, -, -⟩ := hL
  have HE := Lib.hid (show h'.k = bk ∧ h'.n = bnn ∧ h'.s = bs ∧ h'.la = l.length ∧ h'.lf = f.length ∧ ks.length = f.length from ⟨e1, e2, e3, e4, e5, e6⟩)
  clear e1 e2 e3 e4 e5 e6
  by_cases hk : h'.k = 4
  case neg =>
    have hk' := bq_no hk
    have HK := Lib.hid hk
    clear hk
    have z0 := HRES4.out.cell (show 0 < 5 by decide)
    have z1 := HRES4.out.cell (show 1 < 5 by decide)
    have z2 := HRES4.out.cell (show 2 < 5 by decide)
    have z3 := HRES4.out.cell (show 3 < 5 by decide)
    have z4 := HRES4.out.cell (show 4 < 5 by decide)
    have g0 := HRES4.out.frozen 0
    have g1 := HRES4.out.frozen 1
    have g2 := HRES4.out.frozen 2
    have g3 := HRES4.out.frozen 3
    have g4 := HRES4.out.frozen 4
    simp only [hdAt, Hd.cells, List.getD_cons_succ, List.getD_cons_zero] at z0 z1 z2 z3 z4
    go_wp2_with fail
    refine bodyPost_ret (v := .tuple #[.agg #[.int .i64 0, .int .i64 0, .string ⟨#[]⟩, .slice none 0 0, .slice none 0 0], .int .i64 9]) (by simp [results, Try.results56, go_sem, z0, z1, z2, z3, z4]; try rfl) rfl ?_
    exact ⟨zeroVa, zeroHd, 9, rfl, res_below HB4.out (Nat.le_succ _), lies_zero _ _, .inr (.inr (.inl ⟨_, HYES.out.1, HYES.out.2, fun e => HK.out (HE.out.1.trans e), rfl, rfl⟩))⟩
  have hk' : ((h'.k : Int) == 4) = true := by simpa using hk
  obtain rfl : bk = 4 := HE.out.1.symm.trans hk
  obtain ⟨rfl, rfl, rfl, rfl⟩ := list_R HBR.out HE.out.2.2.2.2.2
  have HK4 := Lib.hid hk
  clear hk
  have hAB : ∀ b, b < w.heap.size → b < w4.heap.size := fun b hb => by omega
  obtain ⟨us, vs0, hul, -, hrL, hLL, -, -⟩ := HL4.out.rows
  obtain ⟨vs, vs1, hvl, -, hrI, hLI, -, -⟩ := (HSI.out.below HB4.out (Nat.le_refl _)).rows
  have hla : h'.la = us.length := by rw [hul]; exact HE.out.2.2.2.1
  have hbn2 : bn = vs.length := by rw [hvl]; exact HBN.out
  have hul2 : us.length ≤ 200 := by have h1 := len_le_cntL l; have h2 := HBC2.out; simp only [Va.cnt] at h2; omega
  have hSL : SrcAt w4 h'.A h'.la (us.flatMap Hd.cells) := by rw [hla]; exact src_of_row hrL
  have hSI : SrcAt w4 B bn (vs.flatMap Hd.cells) := by rw [hbn2]; exact src_of_row hrI
  have hba := one_alloc w4 (Obj.cells #[.slice h'.A h'.la h'.lc, .slice B bn bc] 22)
  have K6 := Lib.hid (concatV h'.A B h'.la bn h'.lc bc 0 ⟨w4.heap.size, 0, none⟩ (us.flatMap Hd.cells) (vs.flatMap Hd.cells) (w4.alloc (Obj.cells #[.slice h'.A h'.la h'.lc, .slice B bn bc] 22)) (by rw [World.cell?_alloc_new]; rfl) (by rw [World.cell?_alloc_new]; rfl) (by omega) (by omega)
    (hSL.below hba (Nat.le_refl _)) (hSI.below hba (Nat.le_refl _)) (by rw [hla]; exact flat_lenL us) (by rw [hbn2]; exact flat_lenL vs) (flat_oneL us) (flat_oneL vs))
  have HLL := Lib.hid hLL
  have HLI := Lib.hid hLI
  have HLN := Lib.hid (show h'.la + bn = (l ++ ins).length by rw [List.length_append]; have h1 := HE.out.2.2.2.1; have h2 := HBN.out; omega)
  have hln2 : h'.la + bn ≤ 400 := by omega
  clear hrL hLL hrI hLI hla hbn2 hul hvl hba hul2 hSL hSI
  go_wp2_with fail
  refine K6.out.mono ?_
  rintro e w6 ⟨A', c', rfl, hown, hb6⟩
  have hb46 := (after_alloc hb6).1
  have hs6 := hb46.size
  have HOWN := Lib.hid (own_base hown (show w4.heap.size ≤ (w4.alloc (Obj.cells #[.slice h'.A h'.la h'.lc, .slice B bn bc] 22)).heap.size by simp))
  have hc6 := rowIs_below HCX.out hb46 hxl
  have HC6 := Lib.hid hc6
  have HB46 := Lib.hid hb46
  have x3 := hc6.cell (show 3 < 5 by decide)
  have f3 := hc6.frozen 3
  simp only [hdAt, Hd.cells, List.getD_cons_succ, List.getD_cons_zero] at x3
  clear hb6 hown hb46 hc6 K6
  have hxl6 : w1.heap.size < w6.heap.size := by omega
  go_upto_region 7 with fail
  clear x0 x1 x2 x3 x4 f0 f1 f2 f3 f4
  have hr7 : (w6.setCell ⟨w1.heap.size, 3, none⟩ (.slice A' (h'.la + bn) c')).rowIs w1.heap.size 25 5 (hdAt ⟨h'.k, h'.n, h'.s, A', h'.la + bn, c', h'.F, h'.lf, h'.fc⟩) := by
    refine (HC6.out.set 3 _).congr (fun j hj => ?_)
    match j, hj with
    | 0, _ => rfl
    | 1, _ => rfl
    | 2, _ => rfl
    | 3, _ => rfl
    | 4, _ => rfl
  have hk7 : ∀ b, b ≠ w1.heap.size → (w6.setCell ⟨w1.heap.size, 3, none⟩ (.slice A' (h'.la + bn) c')).heap[b]? = w6.heap[b]? := fun b hb => Below.heap_setCell _ _ _ _ hb
  have hs7 : (w6.setCell ⟨w1.heap.size, 3, none⟩ (.slice A' (h'.la + bn) c')).heap.size = w6.heap.size := by simp
  have hb7 : Below w.heap.size w (w6.setCell ⟨w1.heap.size, 3, none⟩ (.slice A' (h'.la + bn) c')) := (HB4.out.trans (HB46.out.mono HB4.out.size)).setCell (by show w.heap.size ≤ w1.heap.size; omega) _
  generalize (w6.setCell ⟨w1.heap.size, 3, none⟩ (.slice A' (h'.la + bn) c')) = w7 at hr7 hk7 hs7 hb7 ⊢
  have HB7 := Lib.hid hb7
  have hs7' : w6.heap.size ≤ w7.heap.size := by omega
  have HK7 := Lib.hid hk7
  have HLX : Hid (Lies w7 (fun b => b < w7.heap.size) (.mk 4 0 ByteArray.empty (l ++ ins) [] []) ⟨h'.k, h'.n, h'.s, A', h'.la + bn, c', h'.F, h'.lf, h'.fc⟩) := Lib.hid (lies_join (w0 := w4) (S := fun b => b < w.heap.size) (xb := w1.heap.size) HK4.out HE.out.2.1 HE.out.2.2.1 HE.out.2.2.2.2.1 HLN.out (by have := HLN.out; unfold maxLen; omega) HLL.out HLI.out (fun b hb => by omega) (fun b hb => by rw [HK7.out b (by omega)]; exact HB46.out.block b (by omega)) (by omega) hs7' HOWN.out hxl (fun b h1 _ => HK7.out b h1))
  have HJS : Hid ((Va.mk 4 0 ByteArray.empty (l ++ ins) [] []).Sh ∧ (Va.mk 4 0 ByteArray.empty (l ++ ins) [] []).cnt ≤ 400) := Lib.hid (by
    have h1 := HBS.out
    have h2 := HIS.out
    have h3 := HBC2.out
    have h4 := HIC.out
    simp only [lsVa, Va.Sh, Va.cnt] at h1 h2 h3 h4 ⊢
    rw [cntL_app, ShL_app]
    exact ⟨⟨h1.1, ⟨h1.2.1, h2.2.1⟩, h1.2.2⟩, by omega⟩)
  have KC := Lib.hid (changed_any (fun b => b < w7.heap.size) (.mk 4 0 ByteArray.empty (l ++ ins) [] []) ⟨h'.k, h'.n, h'.s, A', h'.la + bn, c', h'.F, h'.lf, h'.fc⟩ p a h w7 A m c (fun b hb => hb) (Lies.keep (fun _ _ _ => rfl) (fun b _ hb => hb) _ _ (HS.out.below HB7.out (Nat.le_refl _))) HLX.out (HA.out.below HB7.out (Nat.le_refl _)) HYES.out.1.2.1.2 HM.out hc hp HSH.out (Nat.le_trans HCN.out (by decide)) HJS.out.1 HJS.out.2 (by rw [HYES.out.2]; rfl))
  unfold Hd.val at KC
  have hbv : Bx w7 w.heap.size h := by
    have h1 := HBX4.out.go HB46.out HBX4.out.1
    exact ⟨by have := h1.1; omega, fun j c hj => (World.cell?_of_block (a := ⟨w.heap.size, j, none⟩) (HK7.out _ (by show w.heap.size ≠ w1.heap.size; omega))).trans (h1.2 j c hj)⟩
  have HR7 := Lib.hid (show w7.rowIs (w.heap.size + 1) 25 5 zeroRes from (rowIs_below HRES4.out HB46.out (by omega)).of_block (HK7.out _ (by omega)))
  have q0 := hbv.2 0 _ rfl
  have q1 := hbv.2 1 _ rfl
  have q2 := hbv.2 2 _ rfl
  have q3 := hbv.2 3 _ rfl
  have q4 := hbv.2 4 _ rfl
  have x0 := hr7.cell (show 0 < 5 by decide)
  have x1 := hr7.cell (show 1 < 5 by decide)
  have x2 := hr7.cell (show 2 < 5 by decide)
  have x3 := hr7.cell (show 3 < 5 by decide)
  have x4 := hr7.cell (show 4 < 5 by decide)
  have f0 := hr7.frozen 0
  have f1 := hr7.frozen 1
  have f2 := hr7.frozen 2
  have f3 := hr7.frozen 3
  have f4 := hr7.frozen 4
  simp only [hdAt, Hd.cells, List.getD_cons_succ, List.getD_cons_zero] at x0 x1 x2 x3 x4
  clear hbv hr7 hk7 hb7
  go_wp2_with fail
  refine KC.out.mono ?_
  rintro e w8 ⟨b8, h8, er, rfl, hb8, hl8, ho8⟩
  have HB8 := Lib.hid (HB7.out.trans (hb8.mono HB7.out.size))
  have HR8 := Lib.hid (rowIs_below HR7.out hb8 (by omega))
  have HL8 := Lib.hid hl8
  have HO8 := Lib.hid ho8
  clear hb8 hl8 ho8 KC x0 x1 x2 x4 q0 q1 q2 q3 q4
  have z0 := HR8.out.cell (show 0 < 5 by decide)
  have z1 := HR8.out.cell (show 1 < 5 by decide)
  have z2 := HR8.out.cell (show 2 < 5 by decide)
  have z3 := HR8.out.cell (show 3 < 5 by decide)
  have z4 := HR8.out.cell (show 4 < 5 by decide)
  have g0 := HR8.out.frozen 0
  have g1 := HR8.out.frozen 1
  have g2 := HR8.out.frozen 2
  have g3 := HR8.out.frozen 3
  have g4 := HR8.out.frozen 4
  simp only [hdAt, Hd.cells, List.getD_cons_succ, List.getD_cons_zero] at z0 z1 z2 z3 z4
  go_wp2_with fail
  refine bodyPost_ret (v := .tuple #[.agg #[.int .i64 h8.k, .int .i64 h8.n, .string h8.s, .slice h8.A h8.la h8.lc, .slice h8.F h8.lf h8.fc], .int .i64 er]) (by simp [results, Try.results56, go_sem, z0, z1, z2, z3, z4]; try rfl) rfl ?_
  refine ⟨b8, h8, er, rfl, res_below HB8.out (Nat.le_succ _), ?_, ?_⟩
  · exact Lies.keep (fun q hq _ => World.cell?_of_block (res_set (w := w) _ (fun e => by rw [e] at hq; omega))) (fun _ _ _ => trivial) _ _ HL8.out
  · rcases HO8.out with ⟨h1, h2, h3⟩ | ⟨h1, h2, h3⟩
    · exact .inr (.inr (.inr (.inl ⟨_, HYES.out.1, HYES.out.2, rfl, h1, h2, h3⟩)))
    · exact .inr (.inr (.inr (.inr ⟨_, HYES.out.1, HYES.out.2, rfl, h1, h2, h3⟩)))
end Go.Proofs.Ytmdlcalnncncjaa

/- The order that tree.Ordered sorts by: a key's place among the keys, and their comparison. -/
set_option linter.unusedVariables false
set_option linter.unusedSimpArgs false
namespace Go.Proofs.Ytmdlcalnncncjaa
open Go.RowKit Go.Maps
theorem nan_any (x : Int) (w : World) : Calls Try.prog 109 #[.int .i64 x] w fun e w' => e = .returned (.bool false) ∧ w' = w := by
  go_enter Try.func109, Try.ntmps109
  go_wp2_with fail
  go_ret
  exact ⟨by simp, rfl⟩
def cmpI (x y : Int) : Int := if x < y then -1 else if y < x then 1 else 0
theorem compare_any (x y : Int) (w : World) : Calls Try.prog 83 #[.int .i64 x, .int .i64 y] w fun e w' => e = .returned (.int .i64 (cmpI x y)) ∧ w' = w := by
  by_cases h1 : x < y
  · have hc := Lib.hid (show cmpI x y = -1 by unfold cmpI; rw [if_pos h1])
    go_enter Try.func83, Try.ntmps83
    go_wp2_with (go_at_call 109; refine (nan_any _ _).mono ?_; rintro e w1 ⟨rfl, rfl⟩)
    go_ret
    exact ⟨by rw [hc.out]; rfl, rfl⟩
  · by_cases h2 : y < x
    · have hc := Lib.hid (show cmpI x y = 1 by unfold cmpI; rw [if_neg h1, if_pos h2])
      go_enter Try.func83, Try.ntmps83
      go_wp2_with (go_at_call 109; refine (nan_any _ _).mono ?_; rintro e w1 ⟨rfl, rfl⟩)
      go_ret
      exact ⟨by rw [hc.out]; rfl, rfl⟩
    · have hc := Lib.hid (show cmpI x y = 0 by unfold cmpI; rw [if_neg h1, if_neg h2])
      go_enter Try.func83, Try.ntmps83
      go_wp2_with (go_at_call 109; refine (nan_any _ _).mono ?_; rintro e w1 ⟨rfl, rfl⟩)
      go_ret
      exact ⟨by rw [hc.out]; rfl, rfl⟩
/-- A key's rank: its place, or behind all. -/
def RankP (keys : List ByteArray) (key : ByteArray) (n : Int) : Prop := (∃ i : Nat, n = (i : Int) ∧ keys[i]? = some key) ∨ (n = (keys.length : Int) ∧ key ∉ keys)
/-- What rank and its two captured variables lead to. -/
structure RankAt (w : World) (Mv Kv : Nat) (keys : List ByteArray) (b n : Nat) (D : DataW Unit) (K : Option Addr) (kc : Nat) : Prop where
  m : w.cell? ⟨Mv, 0, none⟩ = some (.map (some b))
  k : w.cell? ⟨Kv, 0, none⟩ = some (.slice K keys.length kc)
  own : w.ownsMap Try.prog 9 (plainElem Try.prog 3) b n D
  told : MapTo D keys keys.length
  lt : b < w.heap.size
theorem RankAt.below {w w' : World} {Mv Kv : Nat} {keys : List ByteArray} {b n : Nat} {D : DataW Unit} {K : Option Addr} {kc : Nat} (H : RankAt w Mv Kv keys b n D K kc) (hb : Below w.heap.size w w') : RankAt w' Mv Kv keys b n D K kc := by
  refine ⟨cur_bel H.m hb, cur_bel H.k hb, ?_, H.told, Nat.lt_of_lt_of_le H.lt hb.size⟩
  obtain ⟨es, clock, h1, h2⟩ := H.own
  exact ⟨es, clock, (hb.block b H.lt).trans h1, h2⟩
set_option maxHeartbeats 1000000 in
theorem rank_any (keys : List ByteArray) (key : ByteArray) (u : Hd) (Mv Kv b n : Nat) (D : DataW Unit) (K : Option Addr) (kc : Nat) (w : World) (hks : key.size ≤ maxLen) (H : RankAt w Mv Kv keys b n D K kc) :
    Calls Try.prog 80 #[.agg #[.string key, .int .i64 u.k, .int .i64 u.n, .string u.s, .slice u.A u.la u.lc, .slice u.F u.lf u.fc], .pointer (some ⟨Mv, 0, none⟩), .pointer (some ⟨Kv, 0, none⟩)] w fun e w' => (∃ r : Int, e = .returned (.int .i64 r) ∧ RankP keys key r) ∧ Below w.heap.size w w' := by
  have hko := WideMaps.keyOf_string_mk Try.underlying9 hks
  have H1 := H.below ((Below.refl _ _).alloc (Nat.le_refl _) (Obj.cells #[.string key, .int .i64 u.k, .int .i64 u.n, .string u.s, .slice u.A u.la u.lc, .slice u.F u.lf u.fc] 36))
  have hm := H1.m
  have hk := H1.k
  have hown := H1.own
  have HAS := Lib.hid (H.told.has key)
  have HAT := Lib.hid H.told.at_
  clear H H1
  cases hh : Maps.has D (kl key)
  · have HH := Lib.hid hh
    clear hh
    go_enter Try.func80, Try.ntmps80
    go_wp2_with (at_lookup; refine wpList_lookup_own_ok_int _ rfl _ _ 82 rfl 9 3 .i64 law9 Try.underlying82 Try.underlying3 (zero3 _) b n D rfl hown _ _ rfl hko ?_; intro cL hat hwc; rw [HH.out])
    go_ret
    refine ⟨⟨_, rfl, .inr ⟨rfl, fun hm => ?_⟩⟩, (Below.refl _ _).alloc (Nat.le_refl _) _⟩
    have := HAS.out.2 (by rw [List.take_length]; exact hm)
    rw [HH.out] at this
    cases this
  · have HH := Lib.hid hh
    clear hh
    go_enter Try.func80, Try.ntmps80
    go_wp2_with (at_lookup; refine wpList_lookup_own_ok_int _ rfl _ _ 82 rfl 9 3 .i64 law9 Try.underlying82 Try.underlying3 (zero3 _) b n D rfl hown _ _ rfl hko ?_; intro cL hat hwc; rw [HH.out])
    go_ret
    refine ⟨⟨cL, rfl, ?_⟩, (Below.refl _ _).alloc (Nat.le_refl _) _⟩
    have hin := HAS.out.1 HH.out
    rw [List.take_length] at hin
    obtain ⟨i, hi⟩ := List.mem_iff_getElem?.1 hin
    have h2 := HAT.out i key (List.getElem?_eq_some_iff.1 hi).1 hi (.lit (.int .i64 0))
    rw [hat] at h2
    injection h2 with h2
    injection h2 with _ h2
    exact .inl ⟨i, h2, hi⟩
end Go.Proofs.Ytmdlcalnncncjaa

/- The comparison that tree.Ordered sorts by. -/
set_option linter.unusedVariables false
set_option linter.unusedSimpArgs false
namespace Go.Proofs.Ytmdlcalnncncjaa
open Go.RowKit
abbrev closR (Mv Kv : Nat) : Value := .func (.func 80) #[] #[.pointer (some ⟨Mv, 0, none⟩), .pointer (some ⟨Kv, 0, none⟩)]
/-- What the comparison's drawn statement loads. -/
def S13 (Rv Mv Kv P Q : Nat) (k1 k2 : ByteArray) (u1 u2 : Hd) (w : World) : Prop := w.cell? ⟨Rv, 0, none⟩ = some (closR Mv Kv) ∧ w.cell? ⟨P, 0, none⟩ = some (.string k1) ∧ w.cell? ⟨P, 1, none⟩ = some (.int .i64 u1.k) ∧ w.cell? ⟨P, 2, none⟩ = some (.int .i64 u1.n) ∧ w.cell? ⟨P, 3, none⟩ = some (.string u1.s) ∧ w.cell? ⟨P, 4, none⟩ = some (.slice u1.A u1.la u1.lc) ∧ w.cell? ⟨P, 5, none⟩ = some (.slice u1.F u1.lf u1.fc) ∧ w.cell? ⟨Q, 0, none⟩ = some (.string k2) ∧ w.cell? ⟨Q, 1, none⟩ = some (.int .i64 u2.k) ∧ w.cell? ⟨Q, 2, none⟩ = some (.int .i64 u2.n) ∧ w.cell? ⟨Q, 3, none⟩ = some (.string u2.s) ∧ w.cell? ⟨Q, 4, none⟩ = some (.slice u2.A u2.la u2.lc) ∧ w.cell? ⟨Q, 5, none⟩ = some (.slice u2.F u2.lf u2.fc)
theorem S13.imp {Rv Mv Kv P Q : Nat} {k1 k2 : ByteArray} {u1 u2 : Hd} {w w' : World} (h : S13 Rv Mv Kv P Q k1 k2 u1 u2 w) (hR : w'.heap[Rv]? = w.heap[Rv]?) (hP : w'.heap[P]? = w.heap[P]?) (hQ : w'.heap[Q]? = w.heap[Q]?) : S13 Rv Mv Kv P Q k1 k2 u1 u2 w' := by
  obtain ⟨a0, b0, b1, b2, b3, b4, b5, c0, c1, c2, c3, c4, c5⟩ := h
  exact ⟨(World.cell?_of_block (a := ⟨Rv, 0, none⟩) hR).trans a0, (World.cell?_of_block (a := ⟨P, 0, none⟩) hP).trans b0, (World.cell?_of_block (a := ⟨P, 1, none⟩) hP).trans b1, (World.cell?_of_block (a := ⟨P, 2, none⟩) hP).trans b2, (World.cell?_of_block (a := ⟨P, 3, none⟩) hP).trans b3, (World.cell?_of_block (a := ⟨P, 4, none⟩) hP).trans b4, (World.cell?_of_block (a := ⟨P, 5, none⟩) hP).trans b5, (World.cell?_of_block (a := ⟨Q, 0, none⟩) hQ).trans c0, (World.cell?_of_block (a := ⟨Q, 1, none⟩) hQ).trans c1, (World.cell?_of_block (a := ⟨Q, 2, none⟩) hQ).trans c2, (World.cell?_of_block (a := ⟨Q, 3, none⟩) hQ).trans c3, (World.cell?_of_block (a := ⟨Q, 4, none⟩) hQ).trans c4, (World.cell?_of_block (a := ⟨Q, 5, none⟩) hQ).trans c5⟩
theorem S13.bel {Rv Mv Kv P Q : Nat} {k1 k2 : ByteArray} {u1 u2 : Hd} {w w' : World} (h : S13 Rv Mv Kv P Q k1 k2 u1 u2 w) (hb : Below w.heap.size w w') : S13 Rv Mv Kv P Q k1 k2 u1 u2 w' :=
  h.imp (hb.block _ (World.block_lt_of_cell? w _ h.1)) (hb.block _ (World.block_lt_of_cell? w _ h.2.1)) (hb.block _ (World.block_lt_of_cell? w _ h.2.2.2.2.2.2.2.1))
theorem S13.start {Rv Mv Kv : Nat} {k1 k2 : ByteArray} {u1 u2 : Hd} {w : World} (h : w.cell? ⟨Rv, 0, none⟩ = some (closR Mv Kv)) : S13 Rv Mv Kv w.heap.size (w.heap.size + 1) k1 k2 u1 u2 ((w.alloc (Obj.cells #[.string k1, .int .i64 u1.k, .int .i64 u1.n, .string u1.s, .slice u1.A u1.la u1.lc, .slice u1.F u1.lf u1.fc] 36)).alloc (Obj.cells #[.string k2, .int .i64 u2.k, .int .i64 u2.n, .string u2.s, .slice u2.A u2.la u2.lc, .slice u2.F u2.lf u2.fc] 36)) := by
  have hR : Rv < w.heap.size := World.block_lt_of_cell? w _ h
  refine ⟨(World.cell?_alloc_past _ _ _ (by simp; omega)).trans ((World.cell?_alloc_past _ _ _ hR).trans h), (World.cell?_alloc_past _ _ _ (by simp)).trans (World.cell?_alloc_new w _ _ 0), (World.cell?_alloc_past _ _ _ (by simp)).trans (World.cell?_alloc_new w _ _ 1), (World.cell?_alloc_past _ _ _ (by simp)).trans (World.cell?_alloc_new w _ _ 2), (World.cell?_alloc_past _ _ _ (by simp)).trans (World.cell?_alloc_new w _ _ 3), (World.cell?_alloc_past _ _ _ (by simp)).trans (World.cell?_alloc_new w _ _ 4), (World.cell?_alloc_past _ _ _ (by simp)).trans (World.cell?_alloc_new w _ _ 5), (World.cell?_alloc_at _ _ _ _ (by simp)).trans rfl, (World.cell?_alloc_at _ _ _ _ (by simp)).trans rfl, (World.cell?_alloc_at _ _ _ _ (by simp)).trans rfl, (World.cell?_alloc_at _ _ _ _ (by simp)).trans rfl, (World.cell?_alloc_at _ _ _ _ (by simp)).trans rfl, (World.cell?_alloc_at _ _ _ _ (by simp)).trans rfl⟩
/-- What the comparison answers. -/
def OrdR (keys : List ByteArray) (k1 k2 : ByteArray) (w : World) (e : Ending) (w' : World) : Prop := (∃ r1 r2 : Int, RankP keys k1 r1 ∧ RankP keys k2 r2 ∧ e = .returned (.int .i64 (cmpI r1 r2))) ∧ Below w.heap.size w w'
set_option maxHeartbeats 400000 in
set_option maxRecDepth 100000 in
theorem ord_any (keys : List ByteArray) (k1 k2 : ByteArray) (u1 u2 : Hd) (Rv Mv Kv b n : Nat) (D : DataW Unit) (K : Option Addr) (kc : Nat) (w : World) (hk1 : k1.size ≤ maxLen) (hk2 : k2.size ≤ maxLen) (H : RankAt w Mv Kv keys b n D K kc) (hr : w.cell? ⟨Rv, 0, none⟩ = some (closR Mv Kv)) :
    Calls Try.prog 82 #[.agg #[.string k1, .int .i64 u1.k, .int .i64 u1.n, .string u1.s, .slice u1.A u1.la u1.lc, .slice u1.F u1.lf u1.fc], .agg #[.string k2, .int .i64 u2.k, .int .i64 u2.n, .string u2.s, .slice u2.A u2.la u2.lc, .slice u2.F u2.lf u2.fc], .pointer (some ⟨Rv, 0, none⟩)] w fun e w' => OrdR keys k1 k2 w e w' := by
  have hs := S13.start (k1 := k1) (k2 := k2) (u1 := u1) (u2 := u2) hr
  have hb0 : Below w.heap.size w ((w.alloc (Obj.cells #[.string k1, .int .i64 u1.k, .int .i64 u1.n, .string u1.s, .slice u1.A u1.la u1.lc, .slice u1.F u1.lf u1.fc] 36)).alloc (Obj.cells #[.string k2, .int .i64 u2.k, .int .i64 u2.n, .string u2.s, .slice u2.A u2.la u2.lc, .slice u2.F u2.lf u2.fc] 36)) := ((Below.refl _ _).alloc (Nat.le_refl _) _).alloc (by simp) _
  have hrk := H.below hb0
  clear H
  go_enter Try.func82, Try.ntmps82
  go_wp2_with fail
  generalize (w.alloc (Obj.cells #[.string k1, .int .i64 u1.k, .int .i64 u1.n, .string u1.s, .slice u1.A u1.la u1.lc, .slice u1.F u1.lf u1.fc] 36)).alloc (Obj.cells #[.string k2, .int .i64 u2.k, .int .i64 u2.n, .string u2.s, .slice u2.A u2.la u2.lc, .slice u2.F u2.lf u2.fc] 36) = w2 at hs hb0 hrk ⊢
  have HB0 := Lib.hid hb0
  have HRK := Lib.hid hrk
  have HS := Lib.hid (S13.imp (w' := w2.drew) hs rfl rfl rfl)
  have HC1 := Lib.hid (rank_any keys k1 u1 Mv Kv b n D K kc w2.drew hk1 (hrk.below ((Below.refl _ _).drew)))
  have HC2 := Lib.hid (show ∀ w3, Below w2.drew.heap.size w2.drew w3 → _ from fun w3 hb => rank_any keys k2 u2 Mv Kv b n D K kc w3 hk2 ((hrk.below ((Below.refl _ _).drew)).below hb))
  have HC3 := Lib.hid (fun (x y : Int) (w9 : World) => compare_any x y w9)
  obtain ⟨a0, b0, b1, b2, b3, b4, b5, c0, c1, c2, c3, c4, c5⟩ := hs
  clear hrk hb0
  go_region_held3 (fun w' => w'.cell? ⟨Rv, 0, none⟩ = some (closR Mv Kv) ∧ w'.cell? ⟨w.heap.size, 0, none⟩ = some (.string k1) ∧ w'.cell? ⟨w.heap.size, 1, none⟩ = some (.int .i64 u1.k) ∧ w'.cell? ⟨w.heap.size, 2, none⟩ = some (.int .i64 u1.n) ∧ w'.cell? ⟨w.heap.size, 3, none⟩ = some (.string u1.s) ∧ w'.cell? ⟨w.heap.size, 4, none⟩ = some (.slice u1.A u1.la u1.lc) ∧ w'.cell? ⟨w.heap.size, 5, none⟩ = some (.slice u1.F u1.lf u1.fc) ∧ w'.cell? ⟨w.heap.size + 1, 0, none⟩ = some (.string k2) ∧ w'.cell? ⟨w.heap.size + 1, 1, none⟩ = some (.int .i64 u2.k) ∧ w'.cell? ⟨w.heap.size + 1, 2, none⟩ = some (.int .i64 u2.n) ∧ w'.cell? ⟨w.heap.size + 1, 3, none⟩ = some (.string u2.s) ∧ w'.cell? ⟨w.heap.size + 1, 4, none⟩ = some (.slice u2.A u2.la u2.lc) ∧ w'.cell? ⟨w.heap.size + 1, 5, none⟩ = some (.slice u2.F u2.lf u2.fc))
    (first
      | go_keep
      | (exact S13.bel HS.out hb3)
      | (exact S13.bel (S13.bel HS.out hb3) hb4)
      | skip)
    (first
      | (go_at_call 83; refine (Hid.out HC3 _ _ _).mono ?_; rintro e w5 ⟨rfl, rfl⟩)
      | (go_at_call_of 80 (Value.string k1); refine (Hid.out HC1).mono ?_; rintro e w3 ⟨⟨r1, rfl, hr1⟩, hb3⟩; have HR1 := Lib.hid hr1; clear hr1)
      | (go_at_call_of 80 (Value.string k2); refine (Hid.out HC2 _ hb3).mono ?_; rintro e w4 ⟨⟨r2, rfl, hr2⟩, hb4⟩; have HR2 := Lib.hid hr2; clear hr2)
      | fail)
  all_goals go_wp2_with fail
  all_goals go_ret
  all_goals exact ⟨⟨r1, r2, HR1.out, HR2.out, rfl⟩, HB0.out.trans ((((Below.refl _ _).drew).trans (hb3.trans (hb4.mono hb3.size))).mono HB0.out.size)⟩
end Go.Proofs.Ytmdlcalnncncjaa

/- path.keyInBoth: does a key stand in both? -/
set_option linter.unusedVariables false
set_option linter.unusedSimpArgs false
namespace Go.Proofs.Ytmdlcalnncncjaa
open Go.RowKit Go.Maps
theorem ownsMap_below {w w' : World} {b n : Nat} {D : DataW Unit} (h : w.ownsMap Try.prog 9 (plainElem Try.prog 3) b n D) (hl : b < w.heap.size) (hb : Below w.heap.size w w') : w'.ownsMap Try.prog 9 (plainElem Try.prog 3) b n D := by
  obtain ⟨es, clock, h1, h2⟩ := h
  exact ⟨es, clock, (hb.block b hl).trans h1, h2⟩
/-- The captured map. -/
structure MapAt (w : World) (Mv : Nat) (ks : List ByteArray) (b n : Nat) (D : DataW Unit) : Prop where
  m : w.cell? ⟨Mv, 0, none⟩ = some (.map (some b))
  own : w.ownsMap Try.prog 9 (plainElem Try.prog 3) b n D
  told : MapTo D ks ks.length
  lt : b < w.heap.size
theorem MapAt.below {w w' : World} {Mv : Nat} {ks : List ByteArray} {b n : Nat} {D : DataW Unit} (H : MapAt w Mv ks b n D) (hb : Below w.heap.size w w') : MapAt w' Mv ks b n D :=
  ⟨cur_bel H.m hb, ownsMap_below H.own H.lt hb, H.told, Nat.lt_of_lt_of_le H.lt hb.size⟩
set_option maxHeartbeats 1000000 in
theorem both1_any (ks : List ByteArray) (key : ByteArray) (u : Hd) (Mv b n : Nat) (D : DataW Unit) (w : World) (hks : key.size ≤ maxLen) (H : MapAt w Mv ks b n D) :
    Calls Try.prog 115 #[.agg #[.string key, .int .i64 u.k, .int .i64 u.n, .string u.s, .slice u.A u.la u.lc, .slice u.F u.lf u.fc], .pointer (some ⟨Mv, 0, none⟩)] w fun e w' => YesNo (key ∈ ks) w e w' := by
  have hko := WideMaps.keyOf_string_mk Try.underlying9 hks
  have H1 := H.below ((Below.refl _ _).alloc (Nat.le_refl _) (Obj.cells #[.string key, .int .i64 u.k, .int .i64 u.n, .string u.s, .slice u.A u.la u.lc, .slice u.F u.lf u.fc] 36))
  have hm := H1.m
  have hown := H1.own
  have HAS := Lib.hid (H.told.has key)
  clear H H1
  cases hh : Maps.has D (kl key)
  · have HH := Lib.hid hh
    clear hh
    go_enter Try.func115, Try.ntmps115
    go_wp2_with (at_lookup; refine wpList_lookup_own_ok_int _ rfl _ _ 82 rfl 9 3 .i64 law9 Try.underlying82 Try.underlying3 (zero3 _) b n D rfl hown _ _ rfl hko ?_; intro cL hat hwc; rw [HH.out])
    go_ret
    exact YesNo.no (fun hm => by have := HAS.out.2 (by rw [List.take_length]; exact hm); rw [HH.out] at this; cases this) ((Below.refl _ _).alloc (Nat.le_refl _) _)
  · have HH := Lib.hid hh
    clear hh
    go_enter Try.func115, Try.ntmps115
    go_wp2_with (at_lookup; refine wpList_lookup_own_ok_int _ rfl _ _ 82 rfl 9 3 .i64 law9 Try.underlying82 Try.underlying3 (zero3 _) b n D rfl hown _ _ rfl hko ?_; intro cL hat hwc; rw [HH.out])
    go_ret
    exact YesNo.yes (by have := HAS.out.1 HH.out; rwa [List.take_length] at this) ((Below.refl _ _).alloc (Nat.le_refl _) _)
/-- One of the second's keys is among the first's. -/
def Clash (ks ks2 : List ByteArray) : Prop := ∃ key ∈ ks2, key ∈ ks
theorem noClash_next {ks ks2 : List ByteArray} {i : Nat} {key : ByteArray} (h : ∀ x ∈ ks2.take i, x ∉ ks) (hk : ks2[i]? = some key) (hn : key ∉ ks) : ∀ x ∈ ks2.take (i + 1), x ∉ ks := by
  intro x hx
  rw [List.take_add_one, hk] at hx
  rcases List.mem_append.1 hx with hx | hx
  · exact h x hx
  · simp at hx; subst hx; exact hn
set_option maxHeartbeats 1000000 in
theorem indexB_any (ks ks2 : List ByteArray) (F : Option Addr) (c Mv b n : Nat) (D : DataW Unit) (w : World) (hn : ks2.length ≤ 1000) (hkm : ∀ x ∈ ks2, x.size ≤ maxLen) (hA : KeyRow w F ks2) (H : MapAt w Mv ks b n D) :
    Calls Try.prog 103 #[.slice F ks2.length c, .func (.func 115) #[] #[.pointer (some ⟨Mv, 0, none⟩)]] w fun e w' => (∃ m : Int, e = .returned (.int .i64 m) ∧ ((m = -1 ∧ ¬ Clash ks ks2) ∨ (0 ≤ m ∧ Clash ks ks2))) ∧ Below w.heap.size w w' := by
  have HM := Lib.hid H
  have HKM := Lib.hid hkm
  clear H hkm
  go_enter Try.func103, Try.ntmps103
  go_wp2_with fail
  go_loopw [8] (fun iv wr => ∃ i : Nat, iv = .int .i64 i ∧ i ≤ ks2.length ∧ (∀ x ∈ ks2.take i, x ∉ ks) ∧ Below w.heap.size w wr) (fun iv _ => ks2.length - (intOf iv).toNat)
  case atStart => exact ⟨0, rfl, Nat.zero_le _, by simp, Below.refl _ _⟩
  case round =>
    obtain ⟨i, rfl, hi, hnk, hbel⟩ := hrel
    have HNK := Lib.hid hnk
    have HB := Lib.hid hbel
    clear hnk hbel
    by_cases hlt : i < ks2.length
    · obtain ⟨key, hk2⟩ : ∃ key, ks2[i]? = some key := ⟨ks2[i], List.getElem?_eq_getElem hlt⟩
      obtain ⟨ad, u, rfl, hbl, hcell⟩ := hA i key hk2
      obtain ⟨q0, q1, q2, q3, q4, q5⟩ := hcell.below HB.out hbl
      have HK2 := Lib.hid hk2
      clear hcell hk2
      go_wp2_with fail
      refine (both1_any ks key u Mv b n D wr (HKM.out key (List.mem_of_getElem? HK2.out)) (HM.out.below HB.out)).mono ?_
      rintro e w1 ⟨r, rfl, hr, hb1⟩
      have HR := Lib.hid hr
      have HB1 := Lib.hid hb1
      clear hr hb1
      cases r
      · have hnk2 := Lib.hid (noClash_next HNK.out HK2.out (fun h => by have := HR.out.2 h; cases this))
        go_wp2_with fail
        exact ⟨⟨i + 1, by go_num, by omega, hnk2.out, HB.out.trans (HB1.out.mono HB.out.size)⟩, by simp [intOf]; omega⟩
      · have HC : Hid (Clash ks ks2) := Lib.hid ⟨key, List.mem_of_getElem? HK2.out, HR.out.1 rfl⟩
        go_wp2_with fail
        go_ret
        exact ⟨⟨i, rfl, .inr ⟨by omega, HC.out⟩⟩, HB.out.trans (HB1.out.mono HB.out.size)⟩
    · have hall : Hid (¬ Clash ks ks2) := Lib.hid (by
        have := HNK.out
        rw [List.take_of_length_le (by omega)] at this
        rintro ⟨key, h1, h2⟩
        exact this key h1 h2)
      go_wp2_with fail
      go_ret
      exact ⟨⟨-1, rfl, .inl ⟨rfl, hall.out⟩⟩, HB.out⟩
theorem contains_any (ks ks2 : List ByteArray) (F : Option Addr) (c Mv b n : Nat) (D : DataW Unit) (w : World) (hn : ks2.length ≤ 1000) (hkm : ∀ x ∈ ks2, x.size ≤ maxLen) (hA : KeyRow w F ks2) (H : MapAt w Mv ks b n D) :
    Calls Try.prog 114 #[.slice F ks2.length c, .func (.func 115) #[] #[.pointer (some ⟨Mv, 0, none⟩)]] w fun e w' => YesNo (Clash ks ks2) w e w' := by
  have K := Lib.hid (indexB_any ks ks2 F c Mv b n D w hn hkm hA H)
  clear H hA hkm
  go_enter Try.func114, Try.ntmps114
  go_wp2_with fail
  refine K.out.mono ?_
  rintro e w1 ⟨⟨m, rfl, hm⟩, hb1⟩
  have HB1 := Lib.hid hb1
  clear hb1 K
  rcases hm with ⟨rfl, hc⟩ | ⟨hm, hc⟩
  · have HC := Lib.hid hc
    clear hc
    go_wp2_with fail
    go_ret
    exact YesNo.no HC.out HB1.out
  · have HC := Lib.hid hc
    have hm' : ¬ m < 0 := by omega
    clear hc
    go_wp2_with fail
    go_ret
    exact ⟨_, rfl, by simp [HC.out], HB1.out⟩
set_option maxHeartbeats 1000000 in
set_option maxRecDepth 100000 in
theorem both_any (ks ks2 : List ByteArray) (F G : Option Addr) (c d : Nat) (w : World) (hn : ks.length ≤ 1000) (hn2 : ks2.length ≤ 1000) (hkm : ∀ x ∈ ks, x.size ≤ maxLen) (hkm2 : ∀ x ∈ ks2, x.size ≤ maxLen) (hnd : ks.Nodup) (hA : KeyRow w F ks) (hG : KeyRow w G ks2) :
    Calls Try.prog 91 #[.slice F ks.length c, .slice G ks2.length d] w fun e w' => YesNo (Clash ks ks2) w e w' := by
  have hmm := run_makeMap_hint
  have HA := Lib.hid hA
  have HG := Lib.hid hG
  have HKM := Lib.hid hkm
  have HKM2 := Lib.hid hkm2
  have HND := Lib.hid hnd
  clear hA hG hkm hkm2 hnd
  go_enter Try.func91, Try.ntmps91
  go_wp2_with fail
  go_loopw [13] (fun iv wr => ∃ (i : Nat) (D : DataW Unit), iv = .int .i64 i ∧ i ≤ ks.length ∧ MapTo D ks i ∧ wr.ownsMap Try.prog 9 (plainElem Try.prog 3) w.heap.size i D ∧ wr.cell? ⟨w.heap.size + 1, 0, none⟩ = some (.map (some w.heap.size)) ∧ Below w.heap.size w wr) (fun iv _ => ks.length - (intOf iv).toNat)
  case atStart =>
    refine ⟨0, .map [], rfl, Nat.zero_le _, MapTo.start _, ownsMap_below (World.ownsMap_made _ _ _ _) (by simp) (one_alloc _ _), ?_, ((Below.refl _ _).alloc (Nat.le_refl _) _).alloc (by simp) _⟩
    rw [World.cell?_alloc_at _ _ _ _ (by simp)]
    rfl
  case round =>
    obtain ⟨i, D, rfl, hi, hmt, hown, hmc, hbel⟩ := hrel
    have HM := Lib.hid hmt
    have HB := Lib.hid hbel
    have HOW := Lib.hid hown
    have hsz : w.heap.size + 1 < wr.heap.size := World.block_lt_of_cell? wr _ hmc
    clear hmt hbel hown
    by_cases hlt : i < ks.length
    · obtain ⟨key, hkey⟩ : ∃ key, ks[i]? = some key := ⟨ks[i], List.getElem?_eq_getElem hlt⟩
      obtain ⟨ad, u, eF, hbl, hcell⟩ := HA.out i key hkey
      subst eF
      obtain ⟨q0, q1, q2, q3, q4, q5⟩ := hcell.below HB.out hbl
      have hko := WideMaps.keyOf_string_mk Try.underlying9 (HKM.out key (List.mem_of_getElem? hkey))
      have HK := Lib.hid hkey
      have HH : Hid (Maps.has D (kl key) = false) := Lib.hid (by
        cases hh : Maps.has D (kl key)
        · rfl
        · exact absurd HND.out (not_nodup hkey ((HM.out.has key).1 hh)))
      have HMC := Lib.hid hmc
      clear hcell hkey
      go_wp2_with (at_mapUpdate; refine wpList_mapUpdate_own _ rfl _ _ _ 82 rfl 9 3 law9 Try.underlying82 _ w.heap.size i _ rfl (ownsMap_below HOW.out (by omega) (one_alloc wr _)) (by unfold maxLen; omega) _ _ _ rfl rfl hko _ [] (plainElem_int Try.underlying3 (WalkArith.wf_i64 (by omega))) ?_; intro w1 hown1 hgrow1)
      refine ⟨⟨i + 1, _, by go_num, by omega, HM.out.step HK.out HH.out, hown1, ?_, (HB.out.trans ((one_alloc wr _).mono HB.out.size)).grown hgrow1 (by simp; omega) (fun j hj => by cases hj; exact Nat.le_refl _)⟩, by simp [intOf]; omega⟩
      exact (World.cell?_of_block (a := ⟨w.heap.size + 1, 0, none⟩) (hgrow1.block _ (by simp; omega) (by simp))).trans ((World.cell?_alloc_past _ _ _ hsz).trans HMC.out)
    · have hall : Hid (MapAt wr (w.heap.size + 1) ks w.heap.size i D) := Lib.hid (by
        have e : i = ks.length := by omega
        have h2 := HM.out
        rw [e] at h2
        exact ⟨hmc, HOW.out, h2, by omega⟩)
      clear hmc
      go_wp2_with fail
      refine (contains_any ks ks2 G d (w.heap.size + 1) w.heap.size i D wr hn2 HKM2.out (HG.out.below HB.out (Nat.le_refl _)) hall.out).mono ?_
      rintro e w1 ⟨r, rfl, hr, hb1⟩
      have HR := Lib.hid hr
      have HB1 := Lib.hid (HB.out.trans (hb1.mono HB.out.size))
      clear hr hb1
      go_wp2_with fail
      go_ret
      exact ⟨r, rfl, HR.out, HB1.out⟩
end Go.Proofs.Ytmdlcalnncncjaa

/- The reference's Put. -/
set_option linter.unusedVariables false
set_option linter.unusedSimpArgs false
namespace Go.Proofs.Ytmdlcalnncncjaa
open Go.RowKit
/-- A row that is being made in the value of block O; its elements may be new. -/
structure LoopZ {α : Type} (fn : α → List Value) (hd : α → Hd) (ty : TypeId) (size : Nat) (rw : Option Addr → Nat → Nat → Hd) (wd : World) (O : Nat) (S : Nat → Prop) (l : List Va) (i : Nat) (wr : World) (us : List α) (A' : Option Addr) (c' : Nat) : Prop where
  kp : Kp O wd wr
  row : wr.rowIs O 25 5 (hdAt (rw A' i c'))
  own : wr.ownsRow wd.heap.size ty size (.slice A' i c') i (us.flatMap fn)
  len : us.length = i
  lies : ∀ (j : Nat) y u, l[j]? = some y → us[j]? = some u → Lies wr (fun b => (S b ∨ wd.heap.size ≤ b) ∧ b < wr.heap.size ∧ (Value.slice A' i c').ownBlock ≠ some b) y (hd u)
theorem LoopZ.step {α : Type} {fn : α → List Value} {hd : α → Hd} {ty : TypeId} {size : Nat} {rw : Option Addr → Nat → Nat → Hd} {wd wr wq w3 : World} {O i g cap c0 : Nat} {S : Nat → Prop} {l : List Va} {us : List α} {A' : Option Addr} {c' : Nat} {y : Va} {u : α}
    (H : LoopZ fn hd ty size rw wd O S l i wr us A' c') (hO : O < wd.heap.size) (hSO : ∀ b, S b → b < O)
    (hrw : ∀ W : World, W.rowIs O 25 5 (hdAt (rw A' i c')) → (W.setCell ⟨O, c0, none⟩ (.slice (some ⟨g, 0, none⟩) (i + 1) cap)).rowIs O 25 5 (hdAt (rw (some ⟨g, 0, none⟩) (i + 1) cap)))
    (hy : l[i]? = some y) (hbq : Below wr.heap.size wr wq) (hLu : Lies wq (fun b => (S b ∨ wd.heap.size ≤ b) ∧ b < wq.heap.size ∧ (Value.slice A' i c').ownBlock ≠ some b) y (hd u))
    (hown3 : w3.ownsRow wd.heap.size ty size (.slice (some ⟨g, 0, none⟩) (i + 1) cap) (i + 1) (us.flatMap fn ++ fn u)) (hgrow : wq.grownBy w3 (Value.slice A' i c').ownBlock)
    (hat : (Value.slice A' i c').ownBlock = some g ∨ g = wq.heap.size) :
    LoopZ fn hd ty size rw wd O S l (i + 1) (w3.setCell ⟨O, c0, none⟩ (.slice (some ⟨g, 0, none⟩) (i + 1) cap)) (us ++ [u]) (some ⟨g, 0, none⟩) cap := by
  have hkr := H.kp.size
  have hq := hbq.size
  have hg3 := hgrow.size
  have hrow : ∀ b, (Value.slice A' i c').ownBlock = some b → wd.heap.size ≤ b ∧ b < wr.heap.size := fun b hb => own_lo H.own hb
  have blq : ∀ b, b < wq.heap.size → (Value.slice A' i c').ownBlock ≠ some b → w3.heap[b]? = wq.heap[b]? := fun b h1 h2 => hgrow.block b h1 (fun e => h2 e.symm)
  have blk : ∀ b, b < wr.heap.size → (Value.slice A' i c').ownBlock ≠ some b → w3.heap[b]? = wr.heap[b]? := fun b h1 h2 => by
    rw [blq b (by omega) h2, hbq.block b h1]
  have hOn : (Value.slice A' i c').ownBlock ≠ some O := fun e => by have := hrow O e; omega
  have hgO : g ≠ O := by
    rcases hat with e | e
    · have := hrow g e; omega
    · omega
  have hgn : ∀ b, b < wq.heap.size → (Value.slice A' i c').ownBlock ≠ some b → g ≠ b := fun b h1 h2 e => by
    rcases hat with e2 | e2
    · exact h2 (by rw [e2, e])
    · omega
  have hbO : ∀ b, S b ∨ wd.heap.size ≤ b → b ≠ O := fun b hb => by
    rcases hb with hb | hb
    · have := hSO b hb; omega
    · omega
  refine ⟨?_, ?_, ?_, ?_, ?_⟩
  · refine Kp.setN ⟨?_, by omega, fun k h1 h2 => ?_⟩ _
    · exact (H.kp.bel.trans (hbq.mono (by omega))).grown hgrow (by omega) (fun k hk => by have := hrow k hk; omega)
    · rw [blk k (by omega) (fun e => by have := hrow k e; omega)]
      exact H.kp.block k h1 h2
  · exact hrw _ (rowIs_below' (B := 0) H.row (blk O (by omega) hOn))
  · rw [List.flatMap_append]
    refine own_block (v := .slice (some ⟨g, 0, none⟩) (i + 1) cap) (w := w3) ?_ fun b hb => Below.heap_setCell _ _ _ _ ?_
    · simpa using hown3
    · simp only [Value.ownBlock, Option.some.injEq] at hb
      show b ≠ O
      omega
  · simp [H.len]
  · intro j y' u' hy' hu'
    by_cases e : j < i
    · rw [List.getElem?_append_left (by rw [H.len]; exact e)] at hu'
      refine Lies.keep (fun p hp hl => World.cell?_of_block ((Below.heap_setCell _ _ _ _ (hbO _ hp.1)).trans (blk _ hp.2.1 hp.2.2))) (fun b hb hl => ⟨hb.1, ?_, ?_⟩) _ _ (H.lies j y' u' hy' hu')
      · have := hb.2.1; simp; omega
      · intro e2
        injection e2 with e2
        exact hgn b (by have := hb.2.1; omega) hb.2.2 e2
    · have hj : j < (us ++ [u]).length := (List.getElem?_eq_some_iff.1 hu').1
      simp [H.len] at hj
      obtain rfl : j = i := by omega
      rw [List.getElem?_append_right (by rw [H.len]; exact Nat.le_refl _), H.len] at hu'
      simp at hu'
      subst hu'
      rw [hy] at hy'
      cases hy'
      refine Lies.keep (fun p hp hl => World.cell?_of_block ((Below.heap_setCell _ _ _ _ (hbO _ hp.1)).trans (blq _ hp.2.1 hp.2.2))) (fun b hb hl => ⟨hb.1, ?_, ?_⟩) _ _ hLu
      · have := hb.2.1; simp; omega
      · intro e2
        injection e2 with e2
        exact hgn b (by have := hb.2.1; omega) hb.2.2 e2
theorem setc3 {k0 : Int} {O g i n cap c' : Nat} {A' : Option Addr} : ∀ W : World, W.rowIs O 25 5 (hdAt ⟨k0, 0, ByteArray.empty, A', i, c', none, 0, 0⟩) → (W.setCell ⟨O, 3, none⟩ (.slice (some ⟨g, 0, none⟩) n cap)).rowIs O 25 5 (hdAt ⟨k0, 0, ByteArray.empty, some ⟨g, 0, none⟩, n, cap, none, 0, 0⟩) := fun W H => by
  refine (H.set 3 _).congr (fun j hj => ?_)
  match j, hj with
  | 0, _ => rfl
  | 1, _ => rfl
  | 2, _ => rfl
  | 3, _ => rfl
  | 4, _ => rfl
theorem setc4 {k0 : Int} {O g i n cap c' : Nat} {A' : Option Addr} : ∀ W : World, W.rowIs O 25 5 (hdAt ⟨k0, 0, ByteArray.empty, none, 0, 0, A', i, c'⟩) → (W.setCell ⟨O, 4, none⟩ (.slice (some ⟨g, 0, none⟩) n cap)).rowIs O 25 5 (hdAt ⟨k0, 0, ByteArray.empty, none, 0, 0, some ⟨g, 0, none⟩, n, cap⟩) := fun W H => by
  refine (H.set 4 _).congr (fun j hj => ?_)
  match j, hj with
  | 0, _ => rfl
  | 1, _ => rfl
  | 2, _ => rfl
  | 3, _ => rfl
  | 4, _ => rfl
abbrev LoopZL (k0 : Int) := LoopZ Hd.cells id 25 5 (fun A i c => ⟨k0, 0, ByteArray.empty, A, i, c, none, 0, 0⟩)
abbrev LoopZF (k0 : Int) := LoopZ pcells Prod.snd 36 6 (fun A i c => ⟨k0, 0, ByteArray.empty, none, 0, 0, A, i, c⟩)
theorem zip_back {α β : Type} : ∀ us : List (α × β), (us.map Prod.fst).zip (us.map Prod.snd) = us
  | [] => rfl
  | (a, b) :: r => by simp [zip_back r]
theorem own_capZ {w : World} {base : Nat} {e : TypeId} {size : Nat} {A : Option Addr} {n c : Nat} {xs : List Value} (h : w.ownsRow base e size (.slice A n c) n xs) : n ≤ c := by
  rcases h.2 with ⟨e, h0⟩ | ⟨g, cap, cur, hv, _, _, hle, _⟩
  · omega
  · injection hv with _ _ h3; omega
theorem LoopZ.doneL {wd wr wf : World} {O n B : Nat} {k0 : Int} {l : List Va} {S : Nat → Prop} {us : List Hd} {A' : Option Addr} {c' : Nat} (H : LoopZL k0 wd O S l n wr us A' c') (hn : n = l.length) (hlm : l.length ≤ maxLen) (hk0 : -9223372036854775808 ≤ k0 ∧ k0 ≤ 9223372036854775807)
    (hB : B ≤ wd.heap.size) (hblk : ∀ b, b < wr.heap.size → (S b ∨ wd.heap.size ≤ b) → wf.heap[b]? = wr.heap[b]?) : Lies wf (fun b => S b ∨ B ≤ b) (.mk k0 0 ByteArray.empty l [] []) ⟨k0, 0, ByteArray.empty, A', n, c', none, 0, 0⟩ := by
  subst hn
  have own := H.own
  have cap := own_capZ own
  unfold Lies
  refine ⟨⟨rfl, rfl, rfl, rfl, rfl, rfl⟩, ⟨hk0, by decide, by decide, by simp, hlm, by decide, cap, Nat.le_refl _⟩, ⟨us, ?_, LiesL_mk H.len fun i y u hy hu => ?_⟩, ⟨[], fun h => by simp at h, by unfold LiesL; rfl⟩⟩
  · have own2 : wf.ownsRow wd.heap.size 25 5 (.slice A' l.length c') l.length (us.flatMap Hd.cells) := own_block own fun g hg => hblk g (own_lo own hg).2 (.inr (own_lo own hg).1)
    exact row_of_own Hd.cells us cells_len own2 (fun g hg => .inr (by have := (own_lo own hg).1; omega)) (.inr (by decide))
  · refine Lies.keep (fun p hp hlt => World.cell?_of_block (hblk p.block hlt hp.1)) (fun b hb _ => ?_) y u (H.lies i y u hy hu)
    rcases hb.1 with h | h
    · exact .inl h
    · exact .inr (by omega)
theorem LoopZ.doneF {wd wr wf : World} {O n B : Nat} {k0 : Int} {ks : List ByteArray} {l : List Va} {S : Nat → Prop} {us : List (ByteArray × Hd)} {A' : Option Addr} {c' : Nat} (H : LoopZF k0 wd O S l n wr us A' c') (hn : n = l.length) (hus : us.map Prod.fst = ks) (hkm : ∀ x ∈ ks, x.size ≤ maxLen) (hlm : l.length ≤ maxLen) (hk0 : -9223372036854775808 ≤ k0 ∧ k0 ≤ 9223372036854775807)
    (hB : B ≤ wd.heap.size) (hblk : ∀ b, b < wr.heap.size → (S b ∨ wd.heap.size ≤ b) → wf.heap[b]? = wr.heap[b]?) : Lies wf (fun b => S b ∨ B ≤ b) (.mk k0 0 ByteArray.empty [] ks l) ⟨k0, 0, ByteArray.empty, none, 0, 0, A', n, c'⟩ := by
  subst hn hus
  have own := H.own
  have cap := own_capZ own
  unfold Lies
  refine ⟨⟨rfl, rfl, rfl, rfl, rfl, by simp [H.len]⟩, ⟨hk0, by decide, by decide, hkm, by decide, hlm, Nat.le_refl _, cap⟩, ⟨[], fun h => by simp at h, by unfold LiesL; rfl⟩, ⟨us.map Prod.snd, ?_, LiesL_mk (by simp [H.len]) fun i y u hy hu => ?_⟩⟩
  · have own2 : wf.ownsRow wd.heap.size 36 6 (.slice A' l.length c') l.length (us.flatMap pcells) := own_block own fun g hg => hblk g (own_lo own hg).2 (.inr (own_lo own hg).1)
    rw [zip_back]
    exact row_of_own pcells us pcells_len own2 (fun g hg => .inr (by have := (own_lo own hg).1; omega)) (.inr (by decide))
  · rw [List.getElem?_map, Option.map_eq_some_iff] at hu
    obtain ⟨q, hq, rfl⟩ := hu
    refine Lies.keep (fun p hp hlt => World.cell?_of_block (hblk p.block hlt hp.1)) (fun b hb _ => ?_) y q.2 (H.lies i y q hy hq)
    rcases hb.1 with h | h
    · exact .inl h
    · exact .inr (by omega)
def ldY : Op := Op.load 25 (Operand.tmp 10)
/-- The five cells of a box. -/
abbrev X5 (M : Nat) (x : Hd) (w : World) : Prop := w.cell? ⟨M, 0, none⟩ = some (.int .i64 x.k) ∧ w.cell? ⟨M, 1, none⟩ = some (.int .i64 x.n) ∧ w.cell? ⟨M, 2, none⟩ = some (.string x.s) ∧ w.cell? ⟨M, 3, none⟩ = some (.slice x.A x.la x.lc) ∧ w.cell? ⟨M, 4, none⟩ = some (.slice x.F x.lf x.fc)
theorem X5.blk {M : Nat} {x : Hd} {w w' : World} (h : X5 M x w) (hM : w'.heap[M]? = w.heap[M]?) : X5 M x w' :=
  ⟨(World.cell?_of_block (a := ⟨M, 0, none⟩) hM).trans h.1, (World.cell?_of_block (a := ⟨M, 1, none⟩) hM).trans h.2.1, (World.cell?_of_block (a := ⟨M, 2, none⟩) hM).trans h.2.2.1, (World.cell?_of_block (a := ⟨M, 3, none⟩) hM).trans h.2.2.2.1, (World.cell?_of_block (a := ⟨M, 4, none⟩) hM).trans h.2.2.2.2⟩
theorem liesY {S : Nat → Prop} {wr wy w5 wq : World} {Z : Nat} {own : Option Nat} {y : Va} {h' : Hd} (hl : Lies w5 (fun b => S b ∨ wy.heap.size ≤ b) y h') (hs : wy.heap.size = wr.heap.size + 1) (hq : w5.heap.size ≤ wq.heap.size) (hZ : Z ≤ wr.heap.size) (hSZ : ∀ b, S b → b < Z) (hown : ∀ b, own = some b → Z ≤ b ∧ b < wr.heap.size)
    (hblk : ∀ b, b < w5.heap.size → b ≠ wr.heap.size → wq.heap[b]? = w5.heap[b]?) : Lies wq (fun b => (S b ∨ Z ≤ b) ∧ b < wq.heap.size ∧ own ≠ some b) y h' := by
  have hne : ∀ b, S b ∨ wy.heap.size ≤ b → b ≠ wr.heap.size := fun b hb => by
    rcases hb with hb | hb
    · have := hSZ b hb; omega
    · omega
  refine Lies.keep (fun q hq1 hl1 => World.cell?_of_block (hblk _ hl1 (hne _ hq1))) (fun b hb hl1 => ⟨?_, by omega, fun e => ?_⟩) _ _ hl
  · rcases hb with hb | hb
    · exact .inl hb
    · exact .inr (by omega)
  · have h1 := hown b e
    rcases hb with hb | hb
    · have := hSZ b hb; omega
    · omega
def ldQ : Op := Op.load 25 (Operand.tmp 66)
def prAt (q : ByteArray × Hd) (j : Nat) : Value := (pcells q).getD j undef
theorem prAt_row {w : World} {N : Nat} {key : ByteArray} {u : Hd} (H : w.heap[N]? = some (.cells #[.string key, .int .i64 u.k, .int .i64 u.n, .string u.s, .slice u.A u.la u.lc, .slice u.F u.lf u.fc] 36)) : w.rowIs N 36 6 (prAt (key, u)) := by
  refine ⟨_, H, rfl, fun i hi => ?_⟩
  match i, hi with
  | 0, _ => rfl
  | 1, _ => rfl
  | 2, _ => rfl
  | 3, _ => rfl
  | 4, _ => rfl
  | 5, _ => rfl
abbrev resP (W : World) (R : Nat) (u : Hd) : World := (((((W.setCell ⟨R, 1, none⟩ (.int .i64 u.k)).setCell ⟨R, 2, none⟩ (.int .i64 u.n)).setCell ⟨R, 3, none⟩ (.string u.s)).setCell ⟨R, 4, none⟩ (.slice u.A u.la u.lc)).setCell ⟨R, 5, none⟩ (.slice u.F u.lf u.fc))
theorem resP_set {W : World} {R : Nat} {u : Hd} (b : Nat) (h : b ≠ R) : (resP W R u).heap[b]? = W.heap[b]? := by
  unfold resP
  rw [Below.heap_setCell _ _ _ _ h, Below.heap_setCell _ _ _ _ h, Below.heap_setCell _ _ _ _ h, Below.heap_setCell _ _ _ _ h, Below.heap_setCell _ _ _ _ h]
theorem resP_below {B R : Nat} {w w' : World} {u : Hd} (h : Below B w w') (hg : B ≤ R) : Below B w (resP w' R u) := ((((h.setCell hg _).setCell hg _).setCell hg _).setCell hg _).setCell hg _
theorem resP_row {W : World} {R : Nat} {key : ByteArray} {v u : Hd} (H : W.rowIs R 36 6 (prAt (key, v))) : (resP W R u).rowIs R 36 6 (prAt (key, u)) := by
  refine (((((H.set 1 _).set 2 _).set 3 _).set 4 _).set 5 _).congr (fun j hj => ?_)
  match j, hj with
  | 0, _ => rfl
  | 1, _ => rfl
  | 2, _ => rfl
  | 3, _ => rfl
  | 4, _ => rfl
  | 5, _ => rfl
theorem fst_next {ks : List ByteArray} {us : List (ByteArray × Hd)} {j : Nat} {key : ByteArray} {u : Hd} (h : us.map Prod.fst = ks.take j) (hk : ks[j]? = some key) : (us ++ [(key, u)]).map Prod.fst = ks.take (j + 1) := by
  rw [List.map_append, h, take_next hk]
  rfl
theorem resW_row {W : World} {R : Nat} {f : Nat → Value} {u : Hd} (H : W.rowIs R 25 5 f) : (((((W.setCell ⟨R, 0, none⟩ (.int .i64 u.k)).setCell ⟨R, 1, none⟩ (.int .i64 u.n)).setCell ⟨R, 2, none⟩ (.string u.s)).setCell ⟨R, 3, none⟩ (.slice u.A u.la u.lc)).setCell ⟨R, 4, none⟩ (.slice u.F u.lf u.fc)).rowIs R 25 5 (hdAt u) := by
  refine (((((H.set 0 _).set 1 _).set 2 _).set 3 _).set 4 _).congr (fun j hj => ?_)
  match j, hj with
  | 0, _ => rfl
  | 1, _ => rfl
  | 2, _ => rfl
  | 3, _ => rfl
  | 4, _ => rfl
theorem news_one {W : World} {N : Nat} (cs : Array Value) (t : TypeId) (hs : W.heap.size = N) : ∀ (j : Nat) u, cs.toList[j]? = some u → (W.alloc (.cells cs t)).cell? ((⟨N, 0, none⟩ : Addr).add j) = some u := by
  subst hs
  exact World.news_of_block (heap_alloc_new W _)
set_option maxHeartbeats 16000000 in
set_option maxRecDepth 100000 in
theorem put_ref (S : Nat → Prop) (x : Va) (hx : Hd) (p : List St) : ∀ (a : Va) (h : Hd) (w : World) (A : Option Addr) (m c d : Nat), (∀ b, S b → b < w.heap.size) → Lies w S a h → Lies w S x hx → PathAt w A p → (∀ s ∈ p, StR s) → m = p.length → m ≤ c → m ≤ 1000 → a.cnt ≤ 1000 → a.R d → (goV a p).isSome = true →
    Calls Try.prog 113 #[h.val, .slice A m c, hx.val] w fun e w' => RepR S (putV a p x) w e w' := by
  obtain ⟨i0, hi0, hz0, hz1, hz2⟩ := info_parts info25
  obtain ⟨i6, hj0, hy0, hy1, hy2⟩ := info_parts info36
  induction p with
  | nil =>
    intro a h w A m c d hSb H HX hA hR hm hc hp hcn hrd hgo
    obtain rfl : m = 0 := hm
    have HXX := Lib.hid HX
    have HB3 := Lib.hid (three_allocs w (Obj.cells #[.int .i64 h.k, .int .i64 h.n, .string h.s, .slice h.A h.la h.lc, .slice h.F h.lf h.fc] 25) (Obj.cells #[.int .i64 hx.k, .int .i64 hx.n, .string hx.s, .slice hx.A hx.la hx.lc, .slice hx.F hx.lf hx.fc] 25) (Obj.cells #[.int .i64 hx.k, .int .i64 hx.n, .string hx.s, .slice hx.A hx.la hx.lc, .slice hx.F hx.lf hx.fc] 25))
    have hpv : putV a [] x = x := by cases a; rfl
    rw [hpv]
    clear H HX hA hR hc hp hcn hrd hgo hSb hpv
    unfold Hd.val at *
    go_enter Try.func113, Try.ntmps113
    go_wp2_with fail
    refine bodyPost_ret (v := .agg #[.int .i64 hx.k, .int .i64 hx.n, .string hx.s, .slice hx.A hx.la hx.lc, .slice hx.F hx.lf hx.fc]) (by simp [results, Try.results113, go_sem]; try rfl) rfl ?_
    exact ⟨hx, rfl, Lies.keep (fun q _ hq => HB3.out.cell hq) (fun b hb _ => .inl hb) _ _ HXX.out, HB3.out⟩
  | cons s p ih =>
    intro a h w A m c d hSb H HX hA hR hm hc hp hcn hrd hgo
    obtain ⟨ad, rfl, hbl, hat, hok⟩ := hA 0 s rfl
    have e0 : ad.add (0 * 3) = ad := by simp [Addr.add]
    rw [e0] at hat hbl
    have HSR := Lib.hid (hR s (by simp))
    have HTL := Lib.hid hA.tail
    have hm1 : m = p.length + 1 := by simpa using hm
    have HPL := Lib.hid hm1
    have HSb := Lib.hid hSb
    have hm0i : (1 : Int) ≤ (m : Int) := by omega
    have hm0j : (0 : Int) < (m : Int) := by omega
    have hm0k : 0 < m := by omega
    have hm00 : ((m : Int) == 0) = false := by simp; omega
    by_cases hc1 : c = 1
    · subst hc1
      obtain rfl : m = 1 := by omega
      obtain ⟨k, n, t, l, ks, f⟩ := a
      obtain ⟨bb, hbb⟩ := Option.isSome_iff_exists.1 hgo
      obtain ⟨i, y, hsi, hyL, hyF, hgy⟩ := goV_cons hbb
      have HGY : Hid ((goV y p).isSome = true) := Lib.hid (by rw [hgy]; rfl)
      have IH := Lib.hid (fun (y : Va) (u : Hd) (W : World) (A' : Option Addr) (m' c' : Nat) (h0 : ∀ b, S b → b < W.heap.size) (h1 : Lies W S y u) (h2 : Lies W S x hx) (h3 : PathAt W A' p) (h4 : m' = p.length) (h5 : m' ≤ c') (h6 : y.cnt ≤ 1000) (h8 : y.R (d - 1)) (h7 : (goV y p).isSome = true) => ih y u W A' m' c' (d - 1) h0 h1 h2 h3 (fun t ht => hR t (by simp [ht])) h4 h5 (by omega) h6 h8 h7)
      have HH := Lib.hid H
      have HXX := Lib.hid HX
      simp only [Lies] at H
      obtain ⟨⟨e1, e2, e3, e4, e5, e6⟩, -, -⟩ := H
      obtain ⟨hk, hnn, hss, HA, la, lc, F, lf, fc⟩ := h
      simp only at e1 e4 e5
      subst e1 e4
      have hlf : lf = f.length := e5
      subst hlf
      have HE6 := Lib.hid e6
      have HCN := Lib.hid hcn
      have hll : l.length ≤ 1000 := by have := len_le_cntL l; simp only [Va.cnt] at hcn; omega
      have hfl : f.length ≤ 1000 := by have := len_le_cntL f; simp only [Va.cnt] at hcn; omega
      have HRD := Lib.hid hrd
      have HLT := Lib.hid (subI_lt e6 HSR.out hsi)
      have HSI := Lib.hid hsi
      unfold Hd.val at *
      simp only
      -- the world behind the three blocks
      obtain ⟨wd, hwd⟩ : ∃ wd, wd = ((w.alloc (Obj.cells #[.int .i64 hk, .int .i64 hnn, .string hss, .slice HA l.length lc, .slice F f.length fc] 25)).alloc (Obj.cells #[.int .i64 hx.k, .int .i64 hx.n, .string hx.s, .slice hx.A hx.la hx.lc, .slice hx.F hx.lf hx.fc] 25)).alloc (Obj.cells #[.int .i64 0, .int .i64 0, .string { data := #[] }, .slice none 0 0, .slice none 0 0] 25) := ⟨_, rfl⟩
      have hb2 : Below w.heap.size w wd := by rw [hwd]; exact three_allocs _ _ _ _
      have hsz : wd.heap.size = w.heap.size + 3 := by rw [hwd]; simp
      have hbox : wd.rowIs w.heap.size 25 5 (hdAt ⟨hk, hnn, hss, HA, l.length, lc, F, f.length, fc⟩) := by
        rw [hwd]
        refine hdAt_row ?_
        rw [Below.heap_alloc _ _ _ (by simp; omega), Below.heap_alloc _ _ _ (by simp)]
        exact heap_alloc_new _ _
      have hbxx : wd.rowIs (w.heap.size + 1) 25 5 (hdAt hx) := by
        rw [hwd]
        refine hdAt_row ?_
        rw [Below.heap_alloc _ _ _ (by simp)]
        have h9 := heap_alloc_new (w.alloc (Obj.cells #[.int .i64 hk, .int .i64 hnn, .string hss, .slice HA l.length lc, .slice F f.length fc] 25)) (Obj.cells #[.int .i64 hx.k, .int .i64 hx.n, .string hx.s, .slice hx.A hx.la hx.lc, .slice hx.F hx.lf hx.fc] 25)
        rwa [World.size_alloc] at h9
      have hres : wd.rowIs (w.heap.size + 1 + 1) 25 5 zeroRes := by
        rw [hwd]
        refine hdAt_row (h := zeroHd) ?_
        have h9 := heap_alloc_new ((w.alloc (Obj.cells #[.int .i64 hk, .int .i64 hnn, .string hss, .slice HA l.length lc, .slice F f.length fc] 25)).alloc (Obj.cells #[.int .i64 hx.k, .int .i64 hx.n, .string hx.s, .slice hx.A hx.la hx.lc, .slice hx.F hx.lf hx.fc] 25)) (Obj.cells #[.int .i64 0, .int .i64 0, .string { data := #[] }, .slice none 0 0, .slice none 0 0] 25)
        rwa [World.size_alloc, World.size_alloc] at h9
      have HWD := Lib.hid hwd
      clear hA hR e2 e3 e5 e6 hok e0 hcn hm hm1 ih hgo hbb hwd hSb HX hgy
      go_enter Try.func113, Try.ntmps113
      go_wp2_with fail
      rw [← HWD.out]
      clear HWD
      obtain ⟨q0, q1, q2⟩ := hat.below hb2 hbl
      have hbld : ad.block < wd.heap.size := by omega
      have hNd : w.heap.size < wd.heap.size := by omega
      have b0 := hbox.cell (show 0 < 5 by decide)
      have b1 := hbox.cell (show 1 < 5 by decide)
      have b2 := hbox.cell (show 2 < 5 by decide)
      have b3 := hbox.cell (show 3 < 5 by decide)
      have b4 := hbox.cell (show 4 < 5 by decide)
      simp only [hdAt, Hd.cells, List.getD_cons_succ, List.getD_cons_zero] at b0 b1 b2 b3 b4
      have Q0 : ∀ x : BlwBy wd, x.now.cell? ad = some (.string s.k) := fun x => x.cellA hbld q0
      have Q1 : ∀ x : BlwBy wd, x.now.cell? ⟨ad.block, ad.off + 1, none⟩ = some (.int .i64 s.a) := fun x => x.cellA (a := ⟨ad.block, ad.off + 1, none⟩) hbld q1
      have Q2 : ∀ x : BlwBy wd, x.now.cell? ⟨ad.block, ad.off + 2, none⟩ = some (.bool s.i) := fun x => x.cellA (a := ⟨ad.block, ad.off + 2, none⟩) hbld q2
      have B0 : ∀ x : BlwBy wd, x.now.cell? ⟨w.heap.size, 0, none⟩ = some (.int .i64 hk) := fun x => x.cell hNd b0
      have B1 : ∀ x : BlwBy wd, x.now.cell? ⟨w.heap.size, 1, none⟩ = some (.int .i64 hnn) := fun x => x.cell hNd b1
      have B2 : ∀ x : BlwBy wd, x.now.cell? ⟨w.heap.size, 2, none⟩ = some (.string hss) := fun x => x.cell hNd b2
      have B3 : ∀ x : BlwBy wd, x.now.cell? ⟨w.heap.size, 3, none⟩ = some (.slice HA l.length lc) := fun x => x.cell hNd b3
      have B4 : ∀ x : BlwBy wd, x.now.cell? ⟨w.heap.size, 4, none⟩ = some (.slice F f.length fc) := fun x => x.cell hNd b4
      have HHd := Lib.hid (HH.out.below hb2 (Nat.le_refl _))
      have KM : Hid (∀ x : BlwBy wd, Calls Try.prog 87 #[.agg #[.int .i64 hk, .int .i64 hnn, .string hss, .slice HA l.length lc, .slice F f.length fc], .agg #[.string s.k, .int .i64 s.a, .bool s.i]] x.now fun e w'' => e = .returned (.int .i64 (mI (subI (.mk hk n t l ks f) s))) ∧ ∃ q : BlwBy wd, w'' = q.now) := Lib.hid (fun x => Calls.below_of (next_ref (.mk hk n t l ks f) S ⟨hk, hnn, hss, HA, l.length, lc, F, f.length, fc⟩ x.now s (HHd.out.below x.bel (Nat.le_refl _)) HSR.out HCN.out))
      have HB2 := Lib.hid hb2
      have HRES := Lib.hid hres
      have HBOX := Lib.hid hbox
      have HBXX := Lib.hid hbxx
      clear hb2 hres hbox hbxx b0 b1 b2 b3 b4
      refine wp_quiet_below (by kernel_rfl) (by kernel_rfl) ?_
      repeat (quiet_step (first | (go_at_call 87; exact KM.out _)))
      refine wpQuiet_nil ?_
      intro w9 hw'
      have hb9 : Below wd.heap.size wd w9 := by obtain ⟨⟨wx, hbx⟩, hw''⟩ := hw'; rw [hw'']; exact hbx
      clear hw'
      have HB9 := Lib.hid (HB2.out.trans (hb9.mono (by omega)))
      have hs9 := hb9.size
      have HRES9 := Lib.hid (rowIs_below HRES.out hb9 (by omega))
      have HBOX9 := Lib.hid (rowIs_below HBOX.out hb9 (by omega))
      have HBXX9 := Lib.hid (rowIs_below HBXX.out hb9 (by omega))
      have r0 := (hb9.cell hbld).trans q0
      have r1 := (hb9.cell (p := ⟨ad.block, ad.off + 1, none⟩) hbld).trans q1
      have r2 := (hb9.cell (p := ⟨ad.block, ad.off + 2, none⟩) hbld).trans q2
      have hbl9 : ad.block < w9.heap.size := by omega
      clear Q0 Q1 Q2 B0 B1 B2 B3 B4 KM HRES HBOX HBXX q0 q1 q2 hb9 HHd HB2
      simp only [mI]
      have hci : (0 : Int) ≤ (i : Int) := by omega
      have hR1 := HRD.out
      simp only [Va.R] at hR1
      obtain ⟨-, hT, -, hRL, hRF⟩ := hR1
      have HRLF := Lib.hid (show RL l (d - 1) ∧ RL f (d - 1) from ⟨hRL, hRF⟩)
      clear hRL hRF
      cases hst : s.i
      · obtain ⟨hil, h4⟩ := HLT.out.2 hst
        obtain rfl : hk = 5 := h4
        obtain rfl : l = [] := by
          have := hT.c3
          cases l with
          | nil => rfl
          | cons a b => exact absurd ⟨by decide, by simp⟩ this
        obtain rfl : n = 0 := by
          have := hT.c1
          by_cases e : n = 0
          · exact e
          · exact absurd ⟨by decide, by decide, e⟩ this
        obtain rfl : t = ByteArray.empty := by
          have := hT.c2
          by_cases e : t.size = 0
          · exact empty_of e
          · exact absurd ⟨by decide, e⟩ this
        have hyl := hyF hst
        have HYL := Lib.hid hyl
        have HST := Lib.hid hst
        have HXC := Lib.hid (Nat.le_trans (cnt_sub (k := 5) (n := 0) (t := ByteArray.empty) (l := []) (ks := ks) (f := f) (.inr (List.mem_of_getElem? hyl))) HCN.out)
        have HOP := Lib.hid HH.out.op
        have b0 := HBOX9.out.cell (show 0 < 5 by decide)
        simp only [hdAt, Hd.cells, List.getD_cons_succ, List.getD_cons_zero] at b0
        clear hT hyl hyF hyL hst
        go_wp2_with fail
        have hbd := one_alloc w9 (Obj.cells #[.int .i64 5, .int .i64 0, .string { data := #[] }, .slice none 0 0, .slice none 0 0] 25)
        have hrow : (w9.alloc (Obj.cells #[.int .i64 5, .int .i64 0, .string { data := #[] }, .slice none 0 0, .slice none 0 0] 25)).rowIs w9.heap.size 25 5 (hdAt ⟨5, 0, ByteArray.empty, none, 0, 0, none, 0, 0⟩) := hdAt_row (h := ⟨5, 0, ByteArray.empty, none, 0, 0, none, 0, 0⟩) (heap_alloc_new _ _)
        have hszd : (w9.alloc (Obj.cells #[.int .i64 5, .int .i64 0, .string { data := #[] }, .slice none 0 0, .slice none 0 0] 25)).heap.size = w9.heap.size + 1 := by simp
        generalize w9.alloc (Obj.cells #[.int .i64 5, .int .i64 0, .string { data := #[] }, .slice none 0 0, .slice none 0 0] 25) = wz at hbd hrow hszd ⊢
        have HBZ := Lib.hid (HB9.out.trans (hbd.mono (by omega)))
        have HRESZ := Lib.hid (rowIs_below HRES9.out hbd (by omega))
        have HBOXZ := Lib.hid (rowIs_below HBOX9.out hbd (by omega))
        have HBXXZ := Lib.hid (rowIs_below HBXX9.out hbd (by omega))
        have HROW := Lib.hid hrow
        clear hbd hrow b0 HB9 HRES9 HBOX9 HBXX9 r0 r1 r2
        have b3 := HBOXZ.out.cell (show 3 < 5 by decide)
        simp only [hdAt, Hd.cells, List.getD_cons_succ, List.getD_cons_zero, List.length_nil] at b3
        go_loopw [9] (fun iv wr => iv = .int .i64 0 ∧ wz = wr) (fun _ _ => 0)
        case atStart => exact ⟨rfl, rfl⟩
        case round =>
         obtain ⟨rfl, rfl⟩ := hrel
         go_wp2_with fail
         clear b3
         go_loopw [11] (fun iv wr2 => ∃ (j : Nat) (us : List (ByteArray × Hd)) (A' : Option Addr) (c' : Nat), iv = .int .i64 j ∧ j ≤ f.length ∧ us.map Prod.fst = ks.take j ∧ LoopZF 5 wz w9.heap.size S (f.set i (putV y p x)) j wr2 us A' c') (fun iv _ => f.length - (intOf iv).toNat)
         case atStart => exact ⟨0, [], none, 0, rfl, Nat.zero_le _, by simp, ⟨Kp.refl _ _, HROW.out, World.ownsRow_nil _ _ _ _, rfl, fun j y u _ hu => by simp at hu⟩⟩
         case round =>
          obtain ⟨j, us, A', c', rfl, hj, hus, hLZ⟩ := hrel
          have HUS := Lib.hid hus
          clear hus
          have HLZ := Lib.hid hLZ
          have hkp := HLZ.out.kp
          have cO := HLZ.out.row.cell (show 4 < 5 by decide)
          have fO := HLZ.out.row.frozen 4
          have hOr := HLZ.out.row.lt
          have hszr := HLZ.out.kp.size
          have HRO := Lib.hid (show some w9.heap.size ≠ (Value.slice A' j c').ownBlock from fun e => by have := own_lo HLZ.out.own e.symm; omega)
          have box := rowIs_below' (B := 0) HBOXZ.out (hkp.block w.heap.size (by omega) HBOXZ.out.lt)
          have bxx := rowIs_below' (B := 0) HBXXZ.out (hkp.block (w.heap.size + 1) (by omega) HBXXZ.out.lt)
          have b4 := box.cell (show 4 < 5 by decide)
          have HBR := Lib.hid (show Below w.heap.size w wr from HBZ.out.trans (hkp.bel.mono (by omega)))
          have hRr : wr.rowIs (w.heap.size + 1 + 1) 25 5 zeroRes := rowIs_below' (B := 0) HRESZ.out (hkp.block (w.heap.size + 1 + 1) (by omega) HRESZ.out.lt)
          have HRR := Lib.hid hRr
          simp only [hdAt, Hd.cells, List.getD_cons_succ, List.getD_cons_zero] at cO b4
          by_cases hlt : j < f.length
          · obtain ⟨xx, hxx⟩ : ∃ xx, f[j]? = some xx := ⟨f[j], List.getElem?_eq_getElem hlt⟩
            obtain ⟨ad2, u, key, hA2, hSad, hab, hkj, hkm, hLu, hat2⟩ := HOP.out.K j xx hxx
            obtain ⟨k0, k1, k2, k3, k4, k5⟩ := hat2.below HBR.out hab
            obtain rfl : F = some ad2 := hA2
            have HKJ := Lib.hid hkj
            have HLu := Lib.hid hLu
            have HXJ := Lib.hid hxx
            by_cases hij : j = i
            · subst hij
              have x0 := bxx.cell (show 0 < 5 by decide)
              have x1 := bxx.cell (show 1 < 5 by decide)
              have x2 := bxx.cell (show 2 < 5 by decide)
              have x3 := bxx.cell (show 3 < 5 by decide)
              have x4 := bxx.cell (show 4 < 5 by decide)
              simp only [hdAt, Hd.cells, List.getD_cons_succ, List.getD_cons_zero] at x0 x1 x2 x3 x4
              clear hLZ hkp hLu hat2 hxx box bxx hRr hkj hkm
              obtain rfl : xx = y := by have h1 := HXJ.out; rw [HYL.out] at h1; injection h1 with h1; exact h1.symm
              go_upto_region 16 with fail
              have hby := one_alloc wr (Obj.cells #[.string key, .int .i64 u.k, .int .i64 u.n, .string u.s, .slice u.A u.la u.lc, .slice u.F u.lf u.fc] 36)
              have hyr : (wr.alloc (Obj.cells #[.string key, .int .i64 u.k, .int .i64 u.n, .string u.s, .slice u.A u.la u.lc, .slice u.F u.lf u.fc] 36)).rowIs wr.heap.size 36 6 (prAt (key, u)) := prAt_row (heap_alloc_new _ _)
              have hsy : (wr.alloc (Obj.cells #[.string key, .int .i64 u.k, .int .i64 u.n, .string u.s, .slice u.A u.la u.lc, .slice u.F u.lf u.fc] 36)).heap.size = wr.heap.size + 1 := by simp
              generalize wr.alloc (Obj.cells #[.string key, .int .i64 u.k, .int .i64 u.n, .string u.s, .slice u.A u.la u.lc, .slice u.F u.lf u.fc] 36) = wy at hby hyr hsy ⊢
              have HBY := Lib.hid hby
              have HBD := Lib.hid (show Below w.heap.size w wy.drew from (HBR.out.trans (hby.mono HBR.out.size)).trans ((Below.refl _ _).drew))
              have HYR := Lib.hid (show ∀ w5, Below wy.drew.heap.size wy.drew w5 → w5.rowIs wr.heap.size 36 6 (prAt (key, u)) from fun w5 hb => rowIs_below hyr.drew hb (show wr.heap.size < wy.heap.size by omega))
              have hN1 : w.heap.size + 1 < wr.heap.size := by omega
              have HS0 : Hid (X5 (w.heap.size + 1) hx wy.drew) := Lib.hid ⟨(hby.cell (p := ⟨w.heap.size + 1, 0, none⟩) hN1).trans x0, (hby.cell (p := ⟨w.heap.size + 1, 1, none⟩) hN1).trans x1, (hby.cell (p := ⟨w.heap.size + 1, 2, none⟩) hN1).trans x2, (hby.cell (p := ⟨w.heap.size + 1, 3, none⟩) hN1).trans x3, (hby.cell (p := ⟨w.heap.size + 1, 4, none⟩) hN1).trans x4⟩
              have HS1 := Lib.hid (show ∀ w5, Below wy.drew.heap.size wy.drew w5 → X5 (w.heap.size + 1) hx w5 from fun w5 hb => X5.blk HS0.out (hb.block _ (show w.heap.size + 1 < wy.heap.size by omega)))
              have HS2 := Lib.hid (show ∀ w5 (v : Hd), Below wy.drew.heap.size wy.drew w5 → X5 (w.heap.size + 1) hx (resP w5 wr.heap.size v) from fun w5 v hb => X5.blk (HS1.out w5 hb) (resP_set _ (by omega)))
              have hld : ldQ = Op.load 25 (Operand.tmp 66) := rfl
              have y0 := hyr.cell (show 0 < 6 by decide)
              have y1 := hyr.cell (show 1 < 6 by decide)
              have y2 := hyr.cell (show 2 < 6 by decide)
              have y3 := hyr.cell (show 3 < 6 by decide)
              have y4 := hyr.cell (show 4 < 6 by decide)
              have y5 := hyr.cell (show 5 < 6 by decide)
              simp only [prAt, pcells, Hd.cells, List.getD_cons_succ, List.getD_cons_zero] at y0 y1 y2 y3 y4 y5
              have HY := Lib.hid (show (f.set j (putV xx p x))[j]? = some (putV xx p x) from List.getElem?_set_self hlt)
              clear hby hyr x0 x1 x2 x3 x4
              have HCL := Lib.hid (IH.out xx u wy.drew (some ad) 0 0 (fun b hb => by have := HSb.out b hb; show b < wy.heap.size; omega) (HLu.out.below HBD.out (Nat.le_refl _)) (HXX.out.below HBD.out (Nat.le_refl _)) (by have : p = [] := List.length_eq_zero_iff.1 (by have := HPL.out; omega); rw [this]; exact PathAt.nil _ _) (by have := HPL.out; omega) (Nat.le_refl _) HXC.out (RL_mem HRLF.out.2 (List.mem_of_getElem? HXJ.out)) HGY.out)
              go_wp2_with fail
              rw [show Op.load 25 (Operand.tmp 66) = ldQ from rfl]
              go_region_held3 (fun w' => w'.cell? ⟨w.heap.size + 1, 0, none⟩ = some (.int .i64 hx.k) ∧ w'.cell? ⟨w.heap.size + 1, 1, none⟩ = some (.int .i64 hx.n) ∧ w'.cell? ⟨w.heap.size + 1, 2, none⟩ = some (.string hx.s) ∧ w'.cell? ⟨w.heap.size + 1, 3, none⟩ = some (.slice hx.A hx.la hx.lc) ∧ w'.cell? ⟨w.heap.size + 1, 4, none⟩ = some (.slice hx.F hx.lf hx.fc))
                (first
                  | (with_reducible exact HS2.out _ _ hb5)
                  | (have h7 := HS1.out _ hb5; with_reducible exact h7)
                  | (have h7 := HS0.out; with_reducible exact h7)
                  | fail)
                (first
                  | (go_at_call 113; refine HCL.out.mono ?_; rintro e w5 ⟨h', rfl, hl5, hb5⟩; have y1 := (HYR.out _ hb5).cell (show 1 < 6 by decide); have yf1 := (HYR.out _ hb5).frozen 1; have y2 := (HYR.out _ hb5).cell (show 2 < 6 by decide); have yf2 := (HYR.out _ hb5).frozen 2; have y3 := (HYR.out _ hb5).cell (show 3 < 6 by decide); have yf3 := (HYR.out _ hb5).frozen 3; have y4 := (HYR.out _ hb5).cell (show 4 < 6 by decide); have yf4 := (HYR.out _ hb5).frozen 4; have y5 := (HYR.out _ hb5).cell (show 5 < 6 by decide); have yf5 := (HYR.out _ hb5).frozen 5; have y0 := (HYR.out _ hb5).cell (show 0 < 6 by decide); have HL5 := Lib.hid hl5; have HB5 := Lib.hid hb5; clear hl5; simp only [prAt, pcells, Hd.cells, List.getD_cons_succ, List.getD_cons_zero] at y0 y1 y2 y3 y4 y5)
                  | fail)
              all_goals
                clear y0 y1 y2 y3 y4 y5 yf1 yf2 yf3 yf4 yf5
                have hb5w : Below wr.heap.size wr w5 := HBY.out.trans ((show Below wy.heap.size wy w5 from ((Below.refl _ _).drew).trans HB5.out).mono (by omega))
                have hb6 : Below wr.heap.size wr (((((w5.setCell ⟨wr.heap.size, 1, none⟩ (.int .i64 h'.k)).setCell ⟨wr.heap.size, 2, none⟩ (.int .i64 h'.n)).setCell ⟨wr.heap.size, 3, none⟩ (.string h'.s)).setCell ⟨wr.heap.size, 4, none⟩ (.slice h'.A h'.la h'.lc)).setCell ⟨wr.heap.size, 5, none⟩ (.slice h'.F h'.lf h'.fc)) := resP_below hb5w (Nat.le_refl _)
                have row6 : (((((w5.setCell ⟨wr.heap.size, 1, none⟩ (.int .i64 h'.k)).setCell ⟨wr.heap.size, 2, none⟩ (.int .i64 h'.n)).setCell ⟨wr.heap.size, 3, none⟩ (.string h'.s)).setCell ⟨wr.heap.size, 4, none⟩ (.slice h'.A h'.la h'.lc)).setCell ⟨wr.heap.size, 5, none⟩ (.slice h'.F h'.lf h'.fc)).rowIs wr.heap.size 36 6 (prAt (key, h')) := resP_row (HYR.out _ HB5.out)
                have hs6 : (((((w5.setCell ⟨wr.heap.size, 1, none⟩ (.int .i64 h'.k)).setCell ⟨wr.heap.size, 2, none⟩ (.int .i64 h'.n)).setCell ⟨wr.heap.size, 3, none⟩ (.string h'.s)).setCell ⟨wr.heap.size, 4, none⟩ (.slice h'.A h'.la h'.lc)).setCell ⟨wr.heap.size, 5, none⟩ (.slice h'.F h'.lf h'.fc)).heap.size = w5.heap.size := by simp
                have hk6 : ∀ b, b ≠ wr.heap.size → (((((w5.setCell ⟨wr.heap.size, 1, none⟩ (.int .i64 h'.k)).setCell ⟨wr.heap.size, 2, none⟩ (.int .i64 h'.n)).setCell ⟨wr.heap.size, 3, none⟩ (.string h'.s)).setCell ⟨wr.heap.size, 4, none⟩ (.slice h'.A h'.la h'.lc)).setCell ⟨wr.heap.size, 5, none⟩ (.slice h'.F h'.lf h'.fc)).heap[b]? = w5.heap[b]? := fun b hb => resP_set b hb
                generalize (((((w5.setCell ⟨wr.heap.size, 1, none⟩ (.int .i64 h'.k)).setCell ⟨wr.heap.size, 2, none⟩ (.int .i64 h'.n)).setCell ⟨wr.heap.size, 3, none⟩ (.string h'.s)).setCell ⟨wr.heap.size, 4, none⟩ (.slice h'.A h'.la h'.lc)).setCell ⟨wr.heap.size, 5, none⟩ (.slice h'.F h'.lf h'.fc)) = w6 at hb6 row6 hs6 hk6 ⊢
                have y0 := row6.cell (show 0 < 6 by decide)
                have y1 := row6.cell (show 1 < 6 by decide)
                have y2 := row6.cell (show 2 < 6 by decide)
                have y3 := row6.cell (show 3 < 6 by decide)
                have y4 := row6.cell (show 4 < 6 by decide)
                have y5 := row6.cell (show 5 < 6 by decide)
                simp only [prAt, pcells, Hd.cells, List.getD_cons_succ, List.getD_cons_zero] at y0 y1 y2 y3 y4 y5
                have cO6 := (hb6.cell (p := ⟨w9.heap.size, 4, none⟩) hOr).trans cO
                have fO6 := (hb6.frozen (p := ⟨w9.heap.size, 4, none⟩) hOr).trans fO
                have hO6 : w9.heap.size < w6.heap.size := by have := hb6.size; omega
                have HB6 := Lib.hid hb6
                have HK6 := Lib.hid hk6
                have hs5 : wy.heap.size ≤ w5.heap.size := HB5.out.size
                have HQ := Lib.hid (fun o : Obj => show Below wr.heap.size wr (w6.alloc o) from HB6.out.trans ((one_alloc w6 o).mono HB6.out.size))
                have HS6 := Lib.hid hs6
                have HSY := Lib.hid hsy
                clear hb5w hb6 row6 hk6 hs6 hsy
                go_wp2_with (at_builtin; refine wpList_append_lies _ rfl _ _ 23 rfl wz.heap.size 36 i6 _ 6 96 Try.underlying23 hj0 hy0 hy1 hy2 rfl (by decide) (.slice A' j c') j (us.flatMap pcells) rfl (own_below HLZ.out.own (HQ.out _) (Nat.le_refl _)) ⟨w6.heap.size, 0, none⟩ 1 1 (pcells (key, h')) rfl rfl (news_one _ _ rfl) (by simp [pcells, Hd.cells, Value.oneCell']) (by decide) (by unfold maxLen; omega) (by omega) (Nat.le_trans HLZ.out.kp.size (HQ.out _).size) _ rfl ?_; intro g cap w3 hown3 hgrow3 hat3 hlt3; have cO3 := cur_gr cO (HQ.out _) hgrow3 HRO.out; have fO3 := cur_grf cO fO (HQ.out _) hgrow3 HRO.out)
                refine ⟨⟨j + 1, us ++ [(key, h')], _, _, by go_num, by omega, fst_next HUS.out HKJ.out, HLZ.out.step (by omega) (fun b hb => by have := HSb.out b hb; omega) setc4 HY.out (HQ.out _) ?_ hown3 hgrow3 hat3⟩, by simp [intOf]; omega⟩
                exact liesY HL5.out HSY.out (by have := HS6.out; simp; omega) (by omega) (fun b hb => by have := HSb.out b hb; omega) (fun b hb => own_lo HLZ.out.own hb) (fun b hb hne => by rw [Below.heap_alloc _ _ _ (by have := HS6.out; omega)]; exact HK6.out b hne)
            · have hne : ((j : Int) == (i : Int)) = false := by simp; omega
              have HY := Lib.hid (show (f.set i (putV y p x))[j]? = some xx by rw [List.getElem?_set_ne (by omega)]; exact hxx)
              clear hLZ hkp hLu hat2 hxx box bxx hRr hkj hkm hij
              go_wp2_with (at_builtin; refine wpList_append_lies _ rfl _ _ 23 rfl wz.heap.size 36 i6 _ 6 96 Try.underlying23 hj0 hy0 hy1 hy2 rfl (by decide) (.slice A' j c') j (us.flatMap pcells) rfl (own_below HLZ.out.own (two_allocs wr _ _) (Nat.le_refl _)) ⟨wr.heap.size + 1, 0, none⟩ 1 1 (pcells (key, u)) rfl rfl (news_two wr _ _ _) (by simp [pcells, Hd.cells, Value.oneCell']) (by decide) (by unfold maxLen; omega) (by omega) (Nat.le_trans HLZ.out.kp.size ((two_allocs wr _ _)).size) _ rfl ?_; intro g cap w3 hown3 hgrow3 hat3 hlt3; have cO3 := cur_gr cO ((two_allocs wr _ _)) hgrow3 HRO.out; have fO3 := cur_grf cO fO ((two_allocs wr _ _)) hgrow3 HRO.out)
              refine ⟨⟨j + 1, us ++ [(key, u)], _, _, by go_num, by omega, fst_next HUS.out HKJ.out, HLZ.out.step (by omega) (fun b hb => by have := HSb.out b hb; omega) setc4 HY.out (two_allocs wr _ _) ?_ hown3 hgrow3 hat3⟩, by simp [intOf]; omega⟩
              refine Lies.keep (fun q hq hl => (HBR.out.trans ((two_allocs wr _ _).mono HBR.out.size)).cell hl) (fun b hb hl => ⟨.inl hb, ?_, fun e => ?_⟩) _ _ HLu.out
              · simp; omega
              · have := own_lo HLZ.out.own e; omega
          · obtain rfl : j = f.length := by omega
            clear hLZ hkp bxx hRr
            have z0 := HRR.out.cell (show 0 < 5 by decide)
            have z1 := HRR.out.cell (show 1 < 5 by decide)
            have z2 := HRR.out.cell (show 2 < 5 by decide)
            have z3 := HRR.out.cell (show 3 < 5 by decide)
            have z4 := HRR.out.cell (show 4 < 5 by decide)
            have g0 := HRR.out.frozen 0
            have g1 := HRR.out.frozen 1
            have g2 := HRR.out.frozen 2
            have g3 := HRR.out.frozen 3
            have g4 := HRR.out.frozen 4
            have o0 := HLZ.out.row.cell (show 0 < 5 by decide)
            have o1 := HLZ.out.row.cell (show 1 < 5 by decide)
            have o2 := HLZ.out.row.cell (show 2 < 5 by decide)
            have o3 := HLZ.out.row.cell (show 3 < 5 by decide)
            have o4 := HLZ.out.row.cell (show 4 < 5 by decide)
            simp only [hdAt, Hd.cells, List.getD_cons_succ, List.getD_cons_zero] at z0 z1 z2 z3 z4 o0 o1 o2 o3 o4
            have HKM : Hid (∀ x ∈ ks, x.size ≤ maxLen) := Lib.hid (by have := HH.out; simp only [Lies] at this; exact this.2.1.2.2.2.1)
            go_wp2_with fail
            refine bodyPost_ret (v := .agg #[.int .i64 5, .int .i64 0, .string ByteArray.empty, .slice none 0 0, .slice A' f.length c']) (by simp [results, Try.results113, go_sem, z0, z1, z2, z3, z4]; try rfl) rfl ?_
            refine ⟨⟨5, 0, ByteArray.empty, none, 0, 0, A', f.length, c'⟩, rfl, ?_, res_below HBR.out (by omega)⟩
            rw [putV_F HSI.out HST.out HYL.out]
            exact HLZ.out.doneF (by simp) (HUS.out.trans (List.take_of_length_le (by have := HE6.out; omega))) HKM.out (by simp; unfold maxLen; omega) (by decide) (by omega) (fun b hb hs => res_set (w := w) b (fun e => by
                rcases hs with h | h
                · have := HSb.out b h; omega
                · omega))
      · obtain ⟨hil, h4⟩ := HLT.out.1 hst
        obtain rfl : hk = 4 := h4
        obtain rfl : f = [] := by
          have := hT.c4
          cases f with
          | nil => rfl
          | cons a b => exact absurd ⟨by decide, by simp⟩ this
        obtain rfl : ks = [] := List.length_eq_zero_iff.1 (by have := HE6.out; simpa using this)
        obtain rfl : n = 0 := by
          have := hT.c1
          by_cases e : n = 0
          · exact e
          · exact absurd ⟨by decide, by decide, e⟩ this
        obtain rfl : t = ByteArray.empty := by
          have := hT.c2
          by_cases e : t.size = 0
          · exact empty_of e
          · exact absurd ⟨by decide, e⟩ this
        have hyl := hyL hst
        have HYL := Lib.hid hyl
        have HST := Lib.hid hst
        have HXC := Lib.hid (Nat.le_trans (cnt_sub (k := 4) (n := 0) (t := ByteArray.empty) (l := l) (ks := []) (f := []) (.inl (List.mem_of_getElem? hyl))) HCN.out)
        have HOP := Lib.hid HH.out.op
        have b0 := HBOX9.out.cell (show 0 < 5 by decide)
        simp only [hdAt, Hd.cells, List.getD_cons_succ, List.getD_cons_zero] at b0
        clear hT hyl hyF hyL hst
        go_wp2_with fail
        have hbd := one_alloc w9 (Obj.cells #[.int .i64 4, .int .i64 0, .string { data := #[] }, .slice none 0 0, .slice none 0 0] 25)
        have hrow : (w9.alloc (Obj.cells #[.int .i64 4, .int .i64 0, .string { data := #[] }, .slice none 0 0, .slice none 0 0] 25)).rowIs w9.heap.size 25 5 (hdAt ⟨4, 0, ByteArray.empty, none, 0, 0, none, 0, 0⟩) := hdAt_row (h := ⟨4, 0, ByteArray.empty, none, 0, 0, none, 0, 0⟩) (heap_alloc_new _ _)
        have hszd : (w9.alloc (Obj.cells #[.int .i64 4, .int .i64 0, .string { data := #[] }, .slice none 0 0, .slice none 0 0] 25)).heap.size = w9.heap.size + 1 := by simp
        generalize w9.alloc (Obj.cells #[.int .i64 4, .int .i64 0, .string { data := #[] }, .slice none 0 0, .slice none 0 0] 25) = wz at hbd hrow hszd ⊢
        have HBZ := Lib.hid (HB9.out.trans (hbd.mono (by omega)))
        have HRESZ := Lib.hid (rowIs_below HRES9.out hbd (by omega))
        have HBOXZ := Lib.hid (rowIs_below HBOX9.out hbd (by omega))
        have HBXXZ := Lib.hid (rowIs_below HBXX9.out hbd (by omega))
        have HROW := Lib.hid hrow
        clear hbd hrow b0 HB9 HRES9 HBOX9 HBXX9 r0 r1 r2
        go_loopw [9] (fun iv wr => ∃ (j : Nat) (us : List Hd) (A' : Option Addr) (c' : Nat), iv = .int .i64 j ∧ j ≤ l.length ∧ LoopZL 4 wz w9.heap.size S (l.set i (putV y p x)) j wr us A' c') (fun iv _ => l.length - (intOf iv).toNat)
        case atStart => exact ⟨0, [], none, 0, rfl, Nat.zero_le _, ⟨Kp.refl _ _, HROW.out, World.ownsRow_nil _ _ _ _, rfl, fun j y u _ hu => by simp at hu⟩⟩
        case round =>
          obtain ⟨j, us, A', c', rfl, hj, hLZ⟩ := hrel
          have HLZ := Lib.hid hLZ
          have hkp := HLZ.out.kp
          have cO := HLZ.out.row.cell (show 3 < 5 by decide)
          have fO := HLZ.out.row.frozen 3
          have hOr := HLZ.out.row.lt
          have hszr := HLZ.out.kp.size
          have HRO := Lib.hid (show some w9.heap.size ≠ (Value.slice A' j c').ownBlock from fun e => by have := own_lo HLZ.out.own e.symm; omega)
          have box := rowIs_below' (B := 0) HBOXZ.out (hkp.block w.heap.size (by omega) HBOXZ.out.lt)
          have bxx := rowIs_below' (B := 0) HBXXZ.out (hkp.block (w.heap.size + 1) (by omega) HBXXZ.out.lt)
          have b3 := box.cell (show 3 < 5 by decide)
          have b4 := box.cell (show 4 < 5 by decide)
          have HBR := Lib.hid (show Below w.heap.size w wr from HBZ.out.trans (hkp.bel.mono (by omega)))
          have hRr : wr.rowIs (w.heap.size + 1 + 1) 25 5 zeroRes := rowIs_below' (B := 0) HRESZ.out (hkp.block (w.heap.size + 1 + 1) (by omega) HRESZ.out.lt)
          have HRR := Lib.hid hRr
          simp only [hdAt, Hd.cells, List.getD_cons_succ, List.getD_cons_zero] at cO b3 b4
          by_cases hlt : j < l.length
          · obtain ⟨xx, hxx⟩ : ∃ xx, l[j]? = some xx := ⟨l[j], List.getElem?_eq_getElem hlt⟩
            obtain ⟨ad2, u, hA2, hSad, hab, hLu, hat2⟩ := HOP.out.L j xx hxx
            obtain ⟨k0, k1, k2, k3, k4⟩ := hat2.below HBR.out hab
            obtain rfl : HA = some ad2 := hA2
            have HLu := Lib.hid hLu
            have HXJ := Lib.hid hxx
            by_cases hij : j = i
            · subst hij
              have x0 := bxx.cell (show 0 < 5 by decide)
              have x1 := bxx.cell (show 1 < 5 by decide)
              have x2 := bxx.cell (show 2 < 5 by decide)
              have x3 := bxx.cell (show 3 < 5 by decide)
              have x4 := bxx.cell (show 4 < 5 by decide)
              simp only [hdAt, Hd.cells, List.getD_cons_succ, List.getD_cons_zero] at x0 x1 x2 x3 x4
              clear hLZ hkp hLu hat2 hxx box bxx hRr
              obtain rfl : xx = y := by have h1 := HXJ.out; rw [HYL.out] at h1; injection h1 with h1; exact h1.symm
              go_upto_region 9 with fail
              have hby := one_alloc wr (Obj.cells #[.int .i64 u.k, .int .i64 u.n, .string u.s, .slice u.A u.la u.lc, .slice u.F u.lf u.fc] 25)
              have hyr : (wr.alloc (Obj.cells #[.int .i64 u.k, .int .i64 u.n, .string u.s, .slice u.A u.la u.lc, .slice u.F u.lf u.fc] 25)).rowIs wr.heap.size 25 5 (hdAt u) := hdAt_row (heap_alloc_new _ _)
              have hsy : (wr.alloc (Obj.cells #[.int .i64 u.k, .int .i64 u.n, .string u.s, .slice u.A u.la u.lc, .slice u.F u.lf u.fc] 25)).heap.size = wr.heap.size + 1 := by simp
              generalize wr.alloc (Obj.cells #[.int .i64 u.k, .int .i64 u.n, .string u.s, .slice u.A u.la u.lc, .slice u.F u.lf u.fc] 25) = wy at hby hyr hsy ⊢
              have HBY := Lib.hid hby
              have HBD := Lib.hid (show Below w.heap.size w wy.drew from (HBR.out.trans (hby.mono HBR.out.size)).trans ((Below.refl _ _).drew))
              have HYR := Lib.hid (show ∀ w5, Below wy.drew.heap.size wy.drew w5 → w5.rowIs wr.heap.size 25 5 (hdAt u) from fun w5 hb => rowIs_below hyr.drew hb (show wr.heap.size < wy.heap.size by omega))
              have hN1 : w.heap.size + 1 < wr.heap.size := by omega
              have HS0 : Hid (X5 (w.heap.size + 1) hx wy.drew) := Lib.hid ⟨(hby.cell (p := ⟨w.heap.size + 1, 0, none⟩) hN1).trans x0, (hby.cell (p := ⟨w.heap.size + 1, 1, none⟩) hN1).trans x1, (hby.cell (p := ⟨w.heap.size + 1, 2, none⟩) hN1).trans x2, (hby.cell (p := ⟨w.heap.size + 1, 3, none⟩) hN1).trans x3, (hby.cell (p := ⟨w.heap.size + 1, 4, none⟩) hN1).trans x4⟩
              have HS1 := Lib.hid (show ∀ w5, Below wy.drew.heap.size wy.drew w5 → X5 (w.heap.size + 1) hx w5 from fun w5 hb => X5.blk HS0.out (hb.block _ (show w.heap.size + 1 < wy.heap.size by omega)))
              have HS2 := Lib.hid (show ∀ w5 (v : Hd), Below wy.drew.heap.size wy.drew w5 → X5 (w.heap.size + 1) hx (resW w5 wr.heap.size v) from fun w5 v hb => X5.blk (HS1.out w5 hb) (res_set (w := w) _ (by omega)))
              have hld : ldY = Op.load 25 (Operand.tmp 10) := rfl
              have y0 := hyr.cell (show 0 < 5 by decide)
              have y1 := hyr.cell (show 1 < 5 by decide)
              have y2 := hyr.cell (show 2 < 5 by decide)
              have y3 := hyr.cell (show 3 < 5 by decide)
              have y4 := hyr.cell (show 4 < 5 by decide)
              simp only [hdAt, Hd.cells, List.getD_cons_succ, List.getD_cons_zero] at y0 y1 y2 y3 y4
              have HY := Lib.hid (show (l.set j (putV xx p x))[j]? = some (putV xx p x) from List.getElem?_set_self hlt)
              clear hby hyr x0 x1 x2 x3 x4
              have HCL := Lib.hid (IH.out xx u wy.drew (some ad) 0 0 (fun b hb => by have := HSb.out b hb; show b < wy.heap.size; omega) (HLu.out.below HBD.out (Nat.le_refl _)) (HXX.out.below HBD.out (Nat.le_refl _)) (by have : p = [] := List.length_eq_zero_iff.1 (by have := HPL.out; omega); rw [this]; exact PathAt.nil _ _) (by have := HPL.out; omega) (Nat.le_refl _) HXC.out (RL_mem HRLF.out.1 (List.mem_of_getElem? HXJ.out)) HGY.out)
              go_wp2_with fail
              rw [show Op.load 25 (Operand.tmp 10) = ldY from rfl]
              go_region_held3 (fun w' => w'.cell? ⟨w.heap.size + 1, 0, none⟩ = some (.int .i64 hx.k) ∧ w'.cell? ⟨w.heap.size + 1, 1, none⟩ = some (.int .i64 hx.n) ∧ w'.cell? ⟨w.heap.size + 1, 2, none⟩ = some (.string hx.s) ∧ w'.cell? ⟨w.heap.size + 1, 3, none⟩ = some (.slice hx.A hx.la hx.lc) ∧ w'.cell? ⟨w.heap.size + 1, 4, none⟩ = some (.slice hx.F hx.lf hx.fc))
                (first
                  | (with_reducible exact HS2.out _ _ hb5)
                  | (have h7 := HS1.out _ hb5; with_reducible exact h7)
                  | (have h7 := HS0.out; with_reducible exact h7)
                  | fail)
                (first
                  | (go_at_call 113; refine HCL.out.mono ?_; rintro e w5 ⟨h', rfl, hl5, hb5⟩; have y0 := (HYR.out _ hb5).cell (show 0 < 5 by decide); have yf0 := (HYR.out _ hb5).frozen 0; have y1 := (HYR.out _ hb5).cell (show 1 < 5 by decide); have yf1 := (HYR.out _ hb5).frozen 1; have y2 := (HYR.out _ hb5).cell (show 2 < 5 by decide); have yf2 := (HYR.out _ hb5).frozen 2; have y3 := (HYR.out _ hb5).cell (show 3 < 5 by decide); have yf3 := (HYR.out _ hb5).frozen 3; have y4 := (HYR.out _ hb5).cell (show 4 < 5 by decide); have yf4 := (HYR.out _ hb5).frozen 4; have HL5 := Lib.hid hl5; have HB5 := Lib.hid hb5; clear hl5; simp only [hdAt, Hd.cells, List.getD_cons_succ, List.getD_cons_zero] at y0 y1 y2 y3 y4)
                  | fail)
              all_goals
                clear y0 y1 y2 y3 y4 yf0 yf1 yf2 yf3 yf4
                have hb5w : Below wr.heap.size wr w5 := HBY.out.trans ((show Below wy.heap.size wy w5 from ((Below.refl _ _).drew).trans HB5.out).mono (by omega))
                have hb6 : Below wr.heap.size wr (((((w5.setCell ⟨wr.heap.size, 0, none⟩ (.int .i64 h'.k)).setCell ⟨wr.heap.size, 1, none⟩ (.int .i64 h'.n)).setCell ⟨wr.heap.size, 2, none⟩ (.string h'.s)).setCell ⟨wr.heap.size, 3, none⟩ (.slice h'.A h'.la h'.lc)).setCell ⟨wr.heap.size, 4, none⟩ (.slice h'.F h'.lf h'.fc)) := res_below hb5w (Nat.le_refl _)
                have row6 := resW_row (HYR.out _ HB5.out) (u := h')
                have hs6 : (((((w5.setCell ⟨wr.heap.size, 0, none⟩ (.int .i64 h'.k)).setCell ⟨wr.heap.size, 1, none⟩ (.int .i64 h'.n)).setCell ⟨wr.heap.size, 2, none⟩ (.string h'.s)).setCell ⟨wr.heap.size, 3, none⟩ (.slice h'.A h'.la h'.lc)).setCell ⟨wr.heap.size, 4, none⟩ (.slice h'.F h'.lf h'.fc)).heap.size = w5.heap.size := by simp
                have hk6 : ∀ b, b ≠ wr.heap.size → (((((w5.setCell ⟨wr.heap.size, 0, none⟩ (.int .i64 h'.k)).setCell ⟨wr.heap.size, 1, none⟩ (.int .i64 h'.n)).setCell ⟨wr.heap.size, 2, none⟩ (.string h'.s)).setCell ⟨wr.heap.size, 3, none⟩ (.slice h'.A h'.la h'.lc)).setCell ⟨wr.heap.size, 4, none⟩ (.slice h'.F h'.lf h'.fc)).heap[b]? = w5.heap[b]? := fun b hb => res_set (w := w) b hb
                generalize (((((w5.setCell ⟨wr.heap.size, 0, none⟩ (.int .i64 h'.k)).setCell ⟨wr.heap.size, 1, none⟩ (.int .i64 h'.n)).setCell ⟨wr.heap.size, 2, none⟩ (.string h'.s)).setCell ⟨wr.heap.size, 3, none⟩ (.slice h'.A h'.la h'.lc)).setCell ⟨wr.heap.size, 4, none⟩ (.slice h'.F h'.lf h'.fc)) = w6 at hb6 row6 hs6 hk6 ⊢
                have y0 := row6.cell (show 0 < 5 by decide)
                have y1 := row6.cell (show 1 < 5 by decide)
                have y2 := row6.cell (show 2 < 5 by decide)
                have y3 := row6.cell (show 3 < 5 by decide)
                have y4 := row6.cell (show 4 < 5 by decide)
                simp only [hdAt, Hd.cells, List.getD_cons_succ, List.getD_cons_zero] at y0 y1 y2 y3 y4
                have cO6 := (hb6.cell (p := ⟨w9.heap.size, 3, none⟩) hOr).trans cO
                have fO6 := (hb6.frozen (p := ⟨w9.heap.size, 3, none⟩) hOr).trans fO
                have hO6 : w9.heap.size < w6.heap.size := by have := hb6.size; omega
                have HB6 := Lib.hid hb6
                have HK6 := Lib.hid hk6
                have hs5 : wy.heap.size ≤ w5.heap.size := HB5.out.size
                have HQ := Lib.hid (fun o : Obj => show Below wr.heap.size wr (w6.alloc o) from HB6.out.trans ((one_alloc w6 o).mono HB6.out.size))
                have HS6 := Lib.hid hs6
                have HSY := Lib.hid hsy
                clear hb5w hb6 row6 hk6 hs6 hsy
                go_wp2_with (at_builtin; refine wpList_append_lies _ rfl _ _ 22 rfl wz.heap.size 25 i0 _ 5 80 Try.underlying22 hi0 hz0 hz1 hz2 rfl (by decide) (.slice A' j c') j (us.flatMap Hd.cells) rfl (own_below HLZ.out.own (HQ.out _) (Nat.le_refl _)) ⟨w6.heap.size, 0, none⟩ 1 1 (Hd.cells h') rfl rfl (news_one _ _ rfl) (by simp [Hd.cells, Value.oneCell']) (by decide) (by unfold maxLen; omega) (by omega) (Nat.le_trans HLZ.out.kp.size (HQ.out _).size) _ rfl ?_; intro g cap w3 hown3 hgrow3 hat3 hlt3; have cO3 := cur_gr cO (HQ.out _) hgrow3 HRO.out; have fO3 := cur_grf cO fO (HQ.out _) hgrow3 HRO.out)
                refine ⟨⟨j + 1, us ++ [h'], _, _, by go_num, by omega, HLZ.out.step (by omega) (fun b hb => by have := HSb.out b hb; omega) setc3 HY.out (HQ.out _) ?_ hown3 hgrow3 hat3⟩, by simp [intOf]; omega⟩
                exact liesY HL5.out HSY.out (by have := HS6.out; simp; omega) (by omega) (fun b hb => by have := HSb.out b hb; omega) (fun b hb => own_lo HLZ.out.own hb) (fun b hb hne => by rw [Below.heap_alloc _ _ _ (by have := HS6.out; omega)]; exact HK6.out b hne)
            · have hne : ((j : Int) == (i : Int)) = false := by simp; omega
              have HY := Lib.hid (show (l.set i (putV y p x))[j]? = some xx by rw [List.getElem?_set_ne (by omega)]; exact hxx)
              clear hLZ hkp hLu hat2 hxx box bxx hRr hij
              go_wp2_with (at_builtin; refine wpList_append_lies _ rfl _ _ 22 rfl wz.heap.size 25 i0 _ 5 80 Try.underlying22 hi0 hz0 hz1 hz2 rfl (by decide) (.slice A' j c') j (us.flatMap Hd.cells) rfl (own_below HLZ.out.own (two_allocs wr _ _) (Nat.le_refl _)) ⟨wr.heap.size + 1, 0, none⟩ 1 1 (Hd.cells u) rfl rfl (news_two wr _ _ _) (by simp [Hd.cells, Value.oneCell']) (by decide) (by unfold maxLen; omega) (by omega) (Nat.le_trans HLZ.out.kp.size ((two_allocs wr _ _)).size) _ rfl ?_; intro g cap w3 hown3 hgrow3 hat3 hlt3; have cO3 := cur_gr cO ((two_allocs wr _ _)) hgrow3 HRO.out; have fO3 := cur_grf cO fO ((two_allocs wr _ _)) hgrow3 HRO.out)
              refine ⟨⟨j + 1, us ++ [u], _, _, by go_num, by omega, HLZ.out.step (by omega) (fun b hb => by have := HSb.out b hb; omega) setc3 HY.out (two_allocs wr _ _) ?_ hown3 hgrow3 hat3⟩, by simp [intOf]; omega⟩
              refine Lies.keep (fun q hq hl => (HBR.out.trans ((two_allocs wr _ _).mono HBR.out.size)).cell hl) (fun b hb hl => ⟨.inl hb, ?_, fun e => ?_⟩) _ _ HLu.out
              · simp; omega
              · have := own_lo HLZ.out.own e; omega
          · obtain rfl : j = l.length := by omega
            clear hLZ hkp bxx hRr
            simp only [List.length_nil] at b4
            have HBX := Lib.hid (show wr.cell? ⟨w.heap.size, 4, none⟩ = some (.slice F 0 fc) from b4)
            go_wp2_with fail
            go_loopw [11] (fun iv wr' => iv = .int .i64 0 ∧ wr' = wr) (fun _ _ => 0)
            case atStart => exact ⟨rfl, rfl⟩
            case round =>
              obtain ⟨rfl, rfl⟩ := hrel
              have z0 := HRR.out.cell (show 0 < 5 by decide)
              have z1 := HRR.out.cell (show 1 < 5 by decide)
              have z2 := HRR.out.cell (show 2 < 5 by decide)
              have z3 := HRR.out.cell (show 3 < 5 by decide)
              have z4 := HRR.out.cell (show 4 < 5 by decide)
              have g0 := HRR.out.frozen 0
              have g1 := HRR.out.frozen 1
              have g2 := HRR.out.frozen 2
              have g3 := HRR.out.frozen 3
              have g4 := HRR.out.frozen 4
              have o0 := HLZ.out.row.cell (show 0 < 5 by decide)
              have o1 := HLZ.out.row.cell (show 1 < 5 by decide)
              have o2 := HLZ.out.row.cell (show 2 < 5 by decide)
              have o3 := HLZ.out.row.cell (show 3 < 5 by decide)
              have o4 := HLZ.out.row.cell (show 4 < 5 by decide)
              simp only [hdAt, Hd.cells, List.getD_cons_succ, List.getD_cons_zero] at z0 z1 z2 z3 z4 o0 o1 o2 o3 o4
              go_wp2_with fail
              refine bodyPost_ret (v := .agg #[.int .i64 4, .int .i64 0, .string ByteArray.empty, .slice A' l.length c', .slice none 0 0]) (by simp [results, Try.results113, go_sem, z0, z1, z2, z3, z4]; try rfl) rfl ?_
              refine ⟨⟨4, 0, ByteArray.empty, A', l.length, c', none, 0, 0⟩, rfl, ?_, res_below HBR.out (by omega)⟩
              rw [putV_L HSI.out HST.out HYL.out]
              exact HLZ.out.doneL (by simp) (by simp; unfold maxLen; omega) (by decide) (by omega) (fun b hb hs => res_set (w := w) b (fun e => by
                rcases hs with h | h
                · have := HSb.out b h; omega
                · omega))
    · obtain ⟨k, n, t, l, ks, f⟩ := a
      obtain ⟨bb, hbb⟩ := Option.isSome_iff_exists.1 hgo
      obtain ⟨i, y, hsi, hyL, hyF, hgy⟩ := goV_cons hbb
      have HGY : Hid ((goV y p).isSome = true) := Lib.hid (by rw [hgy]; rfl)
      have IH := Lib.hid (fun (y : Va) (u : Hd) (W : World) (A' : Option Addr) (m' c' : Nat) (h0 : ∀ b, S b → b < W.heap.size) (h1 : Lies W S y u) (h2 : Lies W S x hx) (h3 : PathAt W A' p) (h4 : m' = p.length) (h5 : m' ≤ c') (h6 : y.cnt ≤ 1000) (h8 : y.R (d - 1)) (h7 : (goV y p).isSome = true) => ih y u W A' m' c' (d - 1) h0 h1 h2 h3 (fun t ht => hR t (by simp [ht])) h4 h5 (by omega) h6 h8 h7)
      have HH := Lib.hid H
      have HXX := Lib.hid HX
      simp only [Lies] at H
      obtain ⟨⟨e1, e2, e3, e4, e5, e6⟩, -, -⟩ := H
      obtain ⟨hk, hnn, hss, HA, la, lc, F, lf, fc⟩ := h
      simp only at e1 e4 e5
      subst e1 e4
      have hlf : lf = f.length := e5
      subst hlf
      have HE6 := Lib.hid e6
      have HCN := Lib.hid hcn
      have hll : l.length ≤ 1000 := by have := len_le_cntL l; simp only [Va.cnt] at hcn; omega
      have hfl : f.length ≤ 1000 := by have := len_le_cntL f; simp only [Va.cnt] at hcn; omega
      have HRD := Lib.hid hrd
      have HLT := Lib.hid (subI_lt e6 HSR.out hsi)
      have HSI := Lib.hid hsi
      unfold Hd.val at *
      simp only
      -- the world behind the three blocks
      obtain ⟨wd, hwd⟩ : ∃ wd, wd = ((w.alloc (Obj.cells #[.int .i64 hk, .int .i64 hnn, .string hss, .slice HA l.length lc, .slice F f.length fc] 25)).alloc (Obj.cells #[.int .i64 hx.k, .int .i64 hx.n, .string hx.s, .slice hx.A hx.la hx.lc, .slice hx.F hx.lf hx.fc] 25)).alloc (Obj.cells #[.int .i64 0, .int .i64 0, .string { data := #[] }, .slice none 0 0, .slice none 0 0] 25) := ⟨_, rfl⟩
      have hb2 : Below w.heap.size w wd := by rw [hwd]; exact three_allocs _ _ _ _
      have hsz : wd.heap.size = w.heap.size + 3 := by rw [hwd]; simp
      have hbox : wd.rowIs w.heap.size 25 5 (hdAt ⟨hk, hnn, hss, HA, l.length, lc, F, f.length, fc⟩) := by
        rw [hwd]
        refine hdAt_row ?_
        rw [Below.heap_alloc _ _ _ (by simp; omega), Below.heap_alloc _ _ _ (by simp)]
        exact heap_alloc_new _ _
      have hbxx : wd.rowIs (w.heap.size + 1) 25 5 (hdAt hx) := by
        rw [hwd]
        refine hdAt_row ?_
        rw [Below.heap_alloc _ _ _ (by simp)]
        have h9 := heap_alloc_new (w.alloc (Obj.cells #[.int .i64 hk, .int .i64 hnn, .string hss, .slice HA l.length lc, .slice F f.length fc] 25)) (Obj.cells #[.int .i64 hx.k, .int .i64 hx.n, .string hx.s, .slice hx.A hx.la hx.lc, .slice hx.F hx.lf hx.fc] 25)
        rwa [World.size_alloc] at h9
      have hres : wd.rowIs (w.heap.size + 1 + 1) 25 5 zeroRes := by
        rw [hwd]
        refine hdAt_row (h := zeroHd) ?_
        have h9 := heap_alloc_new ((w.alloc (Obj.cells #[.int .i64 hk, .int .i64 hnn, .string hss, .slice HA l.length lc, .slice F f.length fc] 25)).alloc (Obj.cells #[.int .i64 hx.k, .int .i64 hx.n, .string hx.s, .slice hx.A hx.la hx.lc, .slice hx.F hx.lf hx.fc] 25)) (Obj.cells #[.int .i64 0, .int .i64 0, .string { data := #[] }, .slice none 0 0, .slice none 0 0] 25)
        rwa [World.size_alloc, World.size_alloc] at h9
      have HWD := Lib.hid hwd
      clear hA hR e2 e3 e5 e6 hok e0 hcn hm hm1 ih hgo hbb hwd hSb HX hgy
      go_enter Try.func113, Try.ntmps113
      go_wp2_with fail
      rw [← HWD.out]
      clear HWD
      obtain ⟨q0, q1, q2⟩ := hat.below hb2 hbl
      have hbld : ad.block < wd.heap.size := by omega
      have hNd : w.heap.size < wd.heap.size := by omega
      have b0 := hbox.cell (show 0 < 5 by decide)
      have b1 := hbox.cell (show 1 < 5 by decide)
      have b2 := hbox.cell (show 2 < 5 by decide)
      have b3 := hbox.cell (show 3 < 5 by decide)
      have b4 := hbox.cell (show 4 < 5 by decide)
      simp only [hdAt, Hd.cells, List.getD_cons_succ, List.getD_cons_zero] at b0 b1 b2 b3 b4
      have Q0 : ∀ x : BlwBy wd, x.now.cell? ad = some (.string s.k) := fun x => x.cellA hbld q0
      have Q1 : ∀ x : BlwBy wd, x.now.cell? ⟨ad.block, ad.off + 1, none⟩ = some (.int .i64 s.a) := fun x => x.cellA (a := ⟨ad.block, ad.off + 1, none⟩) hbld q1
      have Q2 : ∀ x : BlwBy wd, x.now.cell? ⟨ad.block, ad.off + 2, none⟩ = some (.bool s.i) := fun x => x.cellA (a := ⟨ad.block, ad.off + 2, none⟩) hbld q2
      have B0 : ∀ x : BlwBy wd, x.now.cell? ⟨w.heap.size, 0, none⟩ = some (.int .i64 hk) := fun x => x.cell hNd b0
      have B1 : ∀ x : BlwBy wd, x.now.cell? ⟨w.heap.size, 1, none⟩ = some (.int .i64 hnn) := fun x => x.cell hNd b1
      have B2 : ∀ x : BlwBy wd, x.now.cell? ⟨w.heap.size, 2, none⟩ = some (.string hss) := fun x => x.cell hNd b2
      have B3 : ∀ x : BlwBy wd, x.now.cell? ⟨w.heap.size, 3, none⟩ = some (.slice HA l.length lc) := fun x => x.cell hNd b3
      have B4 : ∀ x : BlwBy wd, x.now.cell? ⟨w.heap.size, 4, none⟩ = some (.slice F f.length fc) := fun x => x.cell hNd b4
      have HHd := Lib.hid (HH.out.below hb2 (Nat.le_refl _))
      have KM : Hid (∀ x : BlwBy wd, Calls Try.prog 87 #[.agg #[.int .i64 hk, .int .i64 hnn, .string hss, .slice HA l.length lc, .slice F f.length fc], .agg #[.string s.k, .int .i64 s.a, .bool s.i]] x.now fun e w'' => e = .returned (.int .i64 (mI (subI (.mk hk n t l ks f) s))) ∧ ∃ q : BlwBy wd, w'' = q.now) := Lib.hid (fun x => Calls.below_of (next_ref (.mk hk n t l ks f) S ⟨hk, hnn, hss, HA, l.length, lc, F, f.length, fc⟩ x.now s (HHd.out.below x.bel (Nat.le_refl _)) HSR.out HCN.out))
      have HB2 := Lib.hid hb2
      have HRES := Lib.hid hres
      have HBOX := Lib.hid hbox
      have HBXX := Lib.hid hbxx
      clear hb2 hres hbox hbxx b0 b1 b2 b3 b4
      refine wp_quiet_below (by kernel_rfl) (by kernel_rfl) ?_
      repeat (quiet_step (first | (go_at_call 87; exact KM.out _)))
      refine wpQuiet_nil ?_
      intro w9 hw'
      have hb9 : Below wd.heap.size wd w9 := by obtain ⟨⟨wx, hbx⟩, hw''⟩ := hw'; rw [hw'']; exact hbx
      clear hw'
      have HB9 := Lib.hid (HB2.out.trans (hb9.mono (by omega)))
      have hs9 := hb9.size
      have HRES9 := Lib.hid (rowIs_below HRES.out hb9 (by omega))
      have HBOX9 := Lib.hid (rowIs_below HBOX.out hb9 (by omega))
      have HBXX9 := Lib.hid (rowIs_below HBXX.out hb9 (by omega))
      have r0 := (hb9.cell hbld).trans q0
      have r1 := (hb9.cell (p := ⟨ad.block, ad.off + 1, none⟩) hbld).trans q1
      have r2 := (hb9.cell (p := ⟨ad.block, ad.off + 2, none⟩) hbld).trans q2
      have hbl9 : ad.block < w9.heap.size := by omega
      clear Q0 Q1 Q2 B0 B1 B2 B3 B4 KM HRES HBOX HBXX q0 q1 q2 hb9 HHd HB2
      simp only [mI]
      have hci : (0 : Int) ≤ (i : Int) := by omega
      have hR1 := HRD.out
      simp only [Va.R] at hR1
      obtain ⟨-, hT, -, hRL, hRF⟩ := hR1
      have HRLF := Lib.hid (show RL l (d - 1) ∧ RL f (d - 1) from ⟨hRL, hRF⟩)
      clear hRL hRF
      cases hst : s.i
      · obtain ⟨hil, h4⟩ := HLT.out.2 hst
        obtain rfl : hk = 5 := h4
        obtain rfl : l = [] := by
          have := hT.c3
          cases l with
          | nil => rfl
          | cons a b => exact absurd ⟨by decide, by simp⟩ this
        obtain rfl : n = 0 := by
          have := hT.c1
          by_cases e : n = 0
          · exact e
          · exact absurd ⟨by decide, by decide, e⟩ this
        obtain rfl : t = ByteArray.empty := by
          have := hT.c2
          by_cases e : t.size = 0
          · exact empty_of e
          · exact absurd ⟨by decide, e⟩ this
        have hyl := hyF hst
        have HYL := Lib.hid hyl
        have HST := Lib.hid hst
        have HXC := Lib.hid (Nat.le_trans (cnt_sub (k := 5) (n := 0) (t := ByteArray.empty) (l := []) (ks := ks) (f := f) (.inr (List.mem_of_getElem? hyl))) HCN.out)
        have HOP := Lib.hid HH.out.op
        have b0 := HBOX9.out.cell (show 0 < 5 by decide)
        simp only [hdAt, Hd.cells, List.getD_cons_succ, List.getD_cons_zero] at b0
        clear hT hyl hyF hyL hst
        go_wp2_with fail
        have hbd := one_alloc w9 (Obj.cells #[.int .i64 5, .int .i64 0, .string { data := #[] }, .slice none 0 0, .slice none 0 0] 25)
        have hrow : (w9.alloc (Obj.cells #[.int .i64 5, .int .i64 0, .string { data := #[] }, .slice none 0 0, .slice none 0 0] 25)).rowIs w9.heap.size 25 5 (hdAt ⟨5, 0, ByteArray.empty, none, 0, 0, none, 0, 0⟩) := hdAt_row (h := ⟨5, 0, ByteArray.empty, none, 0, 0, none, 0, 0⟩) (heap_alloc_new _ _)
        have hszd : (w9.alloc (Obj.cells #[.int .i64 5, .int .i64 0, .string { data := #[] }, .slice none 0 0, .slice none 0 0] 25)).heap.size = w9.heap.size + 1 := by simp
        generalize w9.alloc (Obj.cells #[.int .i64 5, .int .i64 0, .string { data := #[] }, .slice none 0 0, .slice none 0 0] 25) = wz at hbd hrow hszd ⊢
        have HBZ := Lib.hid (HB9.out.trans (hbd.mono (by omega)))
        have HRESZ := Lib.hid (rowIs_below HRES9.out hbd (by omega))
        have HBOXZ := Lib.hid (rowIs_below HBOX9.out hbd (by omega))
        have HBXXZ := Lib.hid (rowIs_below HBXX9.out hbd (by omega))
        have HROW := Lib.hid hrow
        clear hbd hrow b0 HB9 HRES9 HBOX9 HBXX9 r0 r1 r2
        have b3 := HBOXZ.out.cell (show 3 < 5 by decide)
        simp only [hdAt, Hd.cells, List.getD_cons_succ, List.getD_cons_zero, List.length_nil] at b3
        go_loopw [9] (fun iv wr => iv = .int .i64 0 ∧ wz = wr) (fun _ _ => 0)
        case atStart => exact ⟨rfl, rfl⟩
        case round =>
         obtain ⟨rfl, rfl⟩ := hrel
         go_wp2_with fail
         clear b3
         go_loopw [11] (fun iv wr2 => ∃ (j : Nat) (us : List (ByteArray × Hd)) (A' : Option Addr) (c' : Nat), iv = .int .i64 j ∧ j ≤ f.length ∧ us.map Prod.fst = ks.take j ∧ LoopZF 5 wz w9.heap.size S (f.set i (putV y p x)) j wr2 us A' c') (fun iv _ => f.length - (intOf iv).toNat)
         case atStart => exact ⟨0, [], none, 0, rfl, Nat.zero_le _, by simp, ⟨Kp.refl _ _, HROW.out, World.ownsRow_nil _ _ _ _, rfl, fun j y u _ hu => by simp at hu⟩⟩
         case round =>
          obtain ⟨j, us, A', c', rfl, hj, hus, hLZ⟩ := hrel
          have HUS := Lib.hid hus
          clear hus
          have HLZ := Lib.hid hLZ
          have hkp := HLZ.out.kp
          have cO := HLZ.out.row.cell (show 4 < 5 by decide)
          have fO := HLZ.out.row.frozen 4
          have hOr := HLZ.out.row.lt
          have hszr := HLZ.out.kp.size
          have HRO := Lib.hid (show some w9.heap.size ≠ (Value.slice A' j c').ownBlock from fun e => by have := own_lo HLZ.out.own e.symm; omega)
          have box := rowIs_below' (B := 0) HBOXZ.out (hkp.block w.heap.size (by omega) HBOXZ.out.lt)
          have bxx := rowIs_below' (B := 0) HBXXZ.out (hkp.block (w.heap.size + 1) (by omega) HBXXZ.out.lt)
          have b4 := box.cell (show 4 < 5 by decide)
          have HBR := Lib.hid (show Below w.heap.size w wr from HBZ.out.trans (hkp.bel.mono (by omega)))
          have hRr : wr.rowIs (w.heap.size + 1 + 1) 25 5 zeroRes := rowIs_below' (B := 0) HRESZ.out (hkp.block (w.heap.size + 1 + 1) (by omega) HRESZ.out.lt)
          have HRR := Lib.hid hRr
          simp only [hdAt, Hd.cells, List.getD_cons_succ, List.getD_cons_zero] at cO b4
          by_cases hlt : j < f.length
          · obtain ⟨xx, hxx⟩ : ∃ xx, f[j]? = some xx := ⟨f[j], List.getElem?_eq_getElem hlt⟩
            obtain ⟨ad2, u, key, hA2, hSad, hab, hkj, hkm, hLu, hat2⟩ := HOP.out.K j xx hxx
            obtain ⟨k0, k1, k2, k3, k4, k5⟩ := hat2.below HBR.out hab
            obtain rfl : F = some ad2 := hA2
            have HKJ := Lib.hid hkj
            have HLu := Lib.hid hLu
            have HXJ := Lib.hid hxx
            by_cases hij : j = i
            · subst hij
              have x0 := bxx.cell (show 0 < 5 by decide)
              have x1 := bxx.cell (show 1 < 5 by decide)
              have x2 := bxx.cell (show 2 < 5 by decide)
              have x3 := bxx.cell (show 3 < 5 by decide)
              have x4 := bxx.cell (show 4 < 5 by decide)
              simp only [hdAt, Hd.cells, List.getD_cons_succ, List.getD_cons_zero] at x0 x1 x2 x3 x4
              clear hLZ hkp hLu hat2 hxx box bxx hRr hkj hkm
              obtain rfl : xx = y := by have h1 := HXJ.out; rw [HYL.out] at h1; injection h1 with h1; exact h1.symm
              go_upto_region 16 with fail
              have hby := one_alloc wr (Obj.cells #[.string key, .int .i64 u.k, .int .i64 u.n, .string u.s, .slice u.A u.la u.lc, .slice u.F u.lf u.fc] 36)
              have hyr : (wr.alloc (Obj.cells #[.string key, .int .i64 u.k, .int .i64 u.n, .string u.s, .slice u.A u.la u.lc, .slice u.F u.lf u.fc] 36)).rowIs wr.heap.size 36 6 (prAt (key, u)) := prAt_row (heap_alloc_new _ _)
              have hsy : (wr.alloc (Obj.cells #[.string key, .int .i64 u.k, .int .i64 u.n, .string u.s, .slice u.A u.la u.lc, .slice u.F u.lf u.fc] 36)).heap.size = wr.heap.size + 1 := by simp
              generalize wr.alloc (Obj.cells #[.string key, .int .i64 u.k, .int .i64 u.n, .string u.s, .slice u.A u.la u.lc, .slice u.F u.lf u.fc] 36) = wy at hby hyr hsy ⊢
              have HBY := Lib.hid hby
              have HBD := Lib.hid (show Below w.heap.size w wy.drew from (HBR.out.trans (hby.mono HBR.out.size)).trans ((Below.refl _ _).drew))
              have HYR := Lib.hid (show ∀ w5, Below wy.drew.heap.size wy.drew w5 → w5.rowIs wr.heap.size 36 6 (prAt (key, u)) from fun w5 hb => rowIs_below hyr.drew hb (show wr.heap.size < wy.heap.size by omega))
              have hN1 : w.heap.size + 1 < wr.heap.size := by omega
              have HS0 : Hid (X5 (w.heap.size + 1) hx wy.drew) := Lib.hid ⟨(hby.cell (p := ⟨w.heap.size + 1, 0, none⟩) hN1).trans x0, (hby.cell (p := ⟨w.heap.size + 1, 1, none⟩) hN1).trans x1, (hby.cell (p := ⟨w.heap.size + 1, 2, none⟩) hN1).trans x2, (hby.cell (p := ⟨w.heap.size + 1, 3, none⟩) hN1).trans x3, (hby.cell (p := ⟨w.heap.size + 1, 4, none⟩) hN1).trans x4⟩
              have HS1 := Lib.hid (show ∀ w5, Below wy.drew.heap.size wy.drew w5 → X5 (w.heap.size + 1) hx w5 from fun w5 hb => X5.blk HS0.out (hb.block _ (show w.heap.size + 1 < wy.heap.size by omega)))
              have HS2 := Lib.hid (show ∀ w5 (v : Hd), Below wy.drew.heap.size wy.drew w5 → X5 (w.heap.size + 1) hx (resP w5 wr.heap.size v) from fun w5 v hb => X5.blk (HS1.out w5 hb) (resP_set _ (by omega)))
              have hld : ldQ = Op.load 25 (Operand.tmp 66) := rfl
              have y0 := hyr.cell (show 0 < 6 by decide)
              have y1 := hyr.cell (show 1 < 6 by decide)
              have y2 := hyr.cell (show 2 < 6 by decide)
              have y3 := hyr.cell (show 3 < 6 by decide)
              have y4 := hyr.cell (show 4 < 6 by decide)
              have y5 := hyr.cell (show 5 < 6 by decide)
              simp only [prAt, pcells, Hd.cells, List.getD_cons_succ, List.getD_cons_zero] at y0 y1 y2 y3 y4 y5
              have HY := Lib.hid (show (f.set j (putV xx p x))[j]? = some (putV xx p x) from List.getElem?_set_self hlt)
              clear hby hyr x0 x1 x2 x3 x4
              have HCL := Lib.hid (IH.out xx u wy.drew (some ⟨ad.block, ad.off + 3, none⟩) (m - 1) (c - 1) (fun b hb => by have := HSb.out b hb; show b < wy.heap.size; omega) (HLu.out.below HBD.out (Nat.le_refl _)) (HXX.out.below HBD.out (Nat.le_refl _)) (by have h := HTL.out.below HBD.out (Nat.le_refl _); rwa [add_pos _ (by decide)] at h) (by have := HPL.out; omega) (by omega) HXC.out (RL_mem HRLF.out.2 (List.mem_of_getElem? HXJ.out)) HGY.out)
              go_wp2_with fail
              rw [show Op.load 25 (Operand.tmp 66) = ldQ from rfl]
              go_region_held3 (fun w' => w'.cell? ⟨w.heap.size + 1, 0, none⟩ = some (.int .i64 hx.k) ∧ w'.cell? ⟨w.heap.size + 1, 1, none⟩ = some (.int .i64 hx.n) ∧ w'.cell? ⟨w.heap.size + 1, 2, none⟩ = some (.string hx.s) ∧ w'.cell? ⟨w.heap.size + 1, 3, none⟩ = some (.slice hx.A hx.la hx.lc) ∧ w'.cell? ⟨w.heap.size + 1, 4, none⟩ = some (.slice hx.F hx.lf hx.fc))
                (first
                  | (with_reducible exact HS2.out _ _ hb5)
                  | (have h7 := HS1.out _ hb5; with_reducible exact h7)
                  | (have h7 := HS0.out; with_reducible exact h7)
                  | fail)
                (first
                  | (go_at_call 113; refine HCL.out.mono ?_; rintro e w5 ⟨h', rfl, hl5, hb5⟩; have y1 := (HYR.out _ hb5).cell (show 1 < 6 by decide); have yf1 := (HYR.out _ hb5).frozen 1; have y2 := (HYR.out _ hb5).cell (show 2 < 6 by decide); have yf2 := (HYR.out _ hb5).frozen 2; have y3 := (HYR.out _ hb5).cell (show 3 < 6 by decide); have yf3 := (HYR.out _ hb5).frozen 3; have y4 := (HYR.out _ hb5).cell (show 4 < 6 by decide); have yf4 := (HYR.out _ hb5).frozen 4; have y5 := (HYR.out _ hb5).cell (show 5 < 6 by decide); have yf5 := (HYR.out _ hb5).frozen 5; have y0 := (HYR.out _ hb5).cell (show 0 < 6 by decide); have HL5 := Lib.hid hl5; have HB5 := Lib.hid hb5; clear hl5; simp only [prAt, pcells, Hd.cells, List.getD_cons_succ, List.getD_cons_zero] at y0 y1 y2 y3 y4 y5)
                  | fail)
              all_goals
                clear y0 y1 y2 y3 y4 y5 yf1 yf2 yf3 yf4 yf5
                have hb5w : Below wr.heap.size wr w5 := HBY.out.trans ((show Below wy.heap.size wy w5 from ((Below.refl _ _).drew).trans HB5.out).mono (by omega))
                have hb6 : Below wr.heap.size wr (((((w5.setCell ⟨wr.heap.size, 1, none⟩ (.int .i64 h'.k)).setCell ⟨wr.heap.size, 2, none⟩ (.int .i64 h'.n)).setCell ⟨wr.heap.size, 3, none⟩ (.string h'.s)).setCell ⟨wr.heap.size, 4, none⟩ (.slice h'.A h'.la h'.lc)).setCell ⟨wr.heap.size, 5, none⟩ (.slice h'.F h'.lf h'.fc)) := resP_below hb5w (Nat.le_refl _)
                have row6 : (((((w5.setCell ⟨wr.heap.size, 1, none⟩ (.int .i64 h'.k)).setCell ⟨wr.heap.size, 2, none⟩ (.int .i64 h'.n)).setCell ⟨wr.heap.size, 3, none⟩ (.string h'.s)).setCell ⟨wr.heap.size, 4, none⟩ (.slice h'.A h'.la h'.lc)).setCell ⟨wr.heap.size, 5, none⟩ (.slice h'.F h'.lf h'.fc)).rowIs wr.heap.size 36 6 (prAt (key, h')) := resP_row (HYR.out _ HB5.out)
                have hs6 : (((((w5.setCell ⟨wr.heap.size, 1, none⟩ (.int .i64 h'.k)).setCell ⟨wr.heap.size, 2, none⟩ (.int .i64 h'.n)).setCell ⟨wr.heap.size, 3, none⟩ (.string h'.s)).setCell ⟨wr.heap.size, 4, none⟩ (.slice h'.A h'.la h'.lc)).setCell ⟨wr.heap.size, 5, none⟩ (.slice h'.F h'.lf h'.fc)).heap.size = w5.heap.size := by simp
                have hk6 : ∀ b, b ≠ wr.heap.size → (((((w5.setCell ⟨wr.heap.size, 1, none⟩ (.int .i64 h'.k)).setCell ⟨wr.heap.size, 2, none⟩ (.int .i64 h'.n)).setCell ⟨wr.heap.size, 3, none⟩ (.string h'.s)).setCell ⟨wr.heap.size, 4, none⟩ (.slice h'.A h'.la h'.lc)).setCell ⟨wr.heap.size, 5, none⟩ (.slice h'.F h'.lf h'.fc)).heap[b]? = w5.heap[b]? := fun b hb => resP_set b hb
                generalize (((((w5.setCell ⟨wr.heap.size, 1, none⟩ (.int .i64 h'.k)).setCell ⟨wr.heap.size, 2, none⟩ (.int .i64 h'.n)).setCell ⟨wr.heap.size, 3, none⟩ (.string h'.s)).setCell ⟨wr.heap.size, 4, none⟩ (.slice h'.A h'.la h'.lc)).setCell ⟨wr.heap.size, 5, none⟩ (.slice h'.F h'.lf h'.fc)) = w6 at hb6 row6 hs6 hk6 ⊢
                have y0 := row6.cell (show 0 < 6 by decide)
                have y1 := row6.cell (show 1 < 6 by decide)
                have y2 := row6.cell (show 2 < 6 by decide)
                have y3 := row6.cell (show 3 < 6 by decide)
                have y4 := row6.cell (show 4 < 6 by decide)
                have y5 := row6.cell (show 5 < 6 by decide)
                simp only [prAt, pcells, Hd.cells, List.getD_cons_succ, List.getD_cons_zero] at y0 y1 y2 y3 y4 y5
                have cO6 := (hb6.cell (p := ⟨w9.heap.size, 4, none⟩) hOr).trans cO
                have fO6 := (hb6.frozen (p := ⟨w9.heap.size, 4, none⟩) hOr).trans fO
                have hO6 : w9.heap.size < w6.heap.size := by have := hb6.size; omega
                have HB6 := Lib.hid hb6
                have HK6 := Lib.hid hk6
                have hs5 : wy.heap.size ≤ w5.heap.size := HB5.out.size
                have HQ := Lib.hid (fun o : Obj => show Below wr.heap.size wr (w6.alloc o) from HB6.out.trans ((one_alloc w6 o).mono HB6.out.size))
                have HS6 := Lib.hid hs6
                have HSY := Lib.hid hsy
                clear hb5w hb6 row6 hk6 hs6 hsy
                go_wp2_with (at_builtin; refine wpList_append_lies _ rfl _ _ 23 rfl wz.heap.size 36 i6 _ 6 96 Try.underlying23 hj0 hy0 hy1 hy2 rfl (by decide) (.slice A' j c') j (us.flatMap pcells) rfl (own_below HLZ.out.own (HQ.out _) (Nat.le_refl _)) ⟨w6.heap.size, 0, none⟩ 1 1 (pcells (key, h')) rfl rfl (news_one _ _ rfl) (by simp [pcells, Hd.cells, Value.oneCell']) (by decide) (by unfold maxLen; omega) (by omega) (Nat.le_trans HLZ.out.kp.size (HQ.out _).size) _ rfl ?_; intro g cap w3 hown3 hgrow3 hat3 hlt3; have cO3 := cur_gr cO (HQ.out _) hgrow3 HRO.out; have fO3 := cur_grf cO fO (HQ.out _) hgrow3 HRO.out)
                refine ⟨⟨j + 1, us ++ [(key, h')], _, _, by go_num, by omega, fst_next HUS.out HKJ.out, HLZ.out.step (by omega) (fun b hb => by have := HSb.out b hb; omega) setc4 HY.out (HQ.out _) ?_ hown3 hgrow3 hat3⟩, by simp [intOf]; omega⟩
                exact liesY HL5.out HSY.out (by have := HS6.out; simp; omega) (by omega) (fun b hb => by have := HSb.out b hb; omega) (fun b hb => own_lo HLZ.out.own hb) (fun b hb hne => by rw [Below.heap_alloc _ _ _ (by have := HS6.out; omega)]; exact HK6.out b hne)
            · have hne : ((j : Int) == (i : Int)) = false := by simp; omega
              have HY := Lib.hid (show (f.set i (putV y p x))[j]? = some xx by rw [List.getElem?_set_ne (by omega)]; exact hxx)
              clear hLZ hkp hLu hat2 hxx box bxx hRr hkj hkm hij
              go_wp2_with (at_builtin; refine wpList_append_lies _ rfl _ _ 23 rfl wz.heap.size 36 i6 _ 6 96 Try.underlying23 hj0 hy0 hy1 hy2 rfl (by decide) (.slice A' j c') j (us.flatMap pcells) rfl (own_below HLZ.out.own (two_allocs wr _ _) (Nat.le_refl _)) ⟨wr.heap.size + 1, 0, none⟩ 1 1 (pcells (key, u)) rfl rfl (news_two wr _ _ _) (by simp [pcells, Hd.cells, Value.oneCell']) (by decide) (by unfold maxLen; omega) (by omega) (Nat.le_trans HLZ.out.kp.size ((two_allocs wr _ _)).size) _ rfl ?_; intro g cap w3 hown3 hgrow3 hat3 hlt3; have cO3 := cur_gr cO ((two_allocs wr _ _)) hgrow3 HRO.out; have fO3 := cur_grf cO fO ((two_allocs wr _ _)) hgrow3 HRO.out)
              refine ⟨⟨j + 1, us ++ [(key, u)], _, _, by go_num, by omega, fst_next HUS.out HKJ.out, HLZ.out.step (by omega) (fun b hb => by have := HSb.out b hb; omega) setc4 HY.out (two_allocs wr _ _) ?_ hown3 hgrow3 hat3⟩, by simp [intOf]; omega⟩
              refine Lies.keep (fun q hq hl => (HBR.out.trans ((two_allocs wr _ _).mono HBR.out.size)).cell hl) (fun b hb hl => ⟨.inl hb, ?_, fun e => ?_⟩) _ _ HLu.out
              · simp; omega
              · have := own_lo HLZ.out.own e; omega
          · obtain rfl : j = f.length := by omega
            clear hLZ hkp bxx hRr
            have z0 := HRR.out.cell (show 0 < 5 by decide)
            have z1 := HRR.out.cell (show 1 < 5 by decide)
            have z2 := HRR.out.cell (show 2 < 5 by decide)
            have z3 := HRR.out.cell (show 3 < 5 by decide)
            have z4 := HRR.out.cell (show 4 < 5 by decide)
            have g0 := HRR.out.frozen 0
            have g1 := HRR.out.frozen 1
            have g2 := HRR.out.frozen 2
            have g3 := HRR.out.frozen 3
            have g4 := HRR.out.frozen 4
            have o0 := HLZ.out.row.cell (show 0 < 5 by decide)
            have o1 := HLZ.out.row.cell (show 1 < 5 by decide)
            have o2 := HLZ.out.row.cell (show 2 < 5 by decide)
            have o3 := HLZ.out.row.cell (show 3 < 5 by decide)
            have o4 := HLZ.out.row.cell (show 4 < 5 by decide)
            simp only [hdAt, Hd.cells, List.getD_cons_succ, List.getD_cons_zero] at z0 z1 z2 z3 z4 o0 o1 o2 o3 o4
            have HKM : Hid (∀ x ∈ ks, x.size ≤ maxLen) := Lib.hid (by have := HH.out; simp only [Lies] at this; exact this.2.1.2.2.2.1)
            go_wp2_with fail
            refine bodyPost_ret (v := .agg #[.int .i64 5, .int .i64 0, .string ByteArray.empty, .slice none 0 0, .slice A' f.length c']) (by simp [results, Try.results113, go_sem, z0, z1, z2, z3, z4]; try rfl) rfl ?_
            refine ⟨⟨5, 0, ByteArray.empty, none, 0, 0, A', f.length, c'⟩, rfl, ?_, res_below HBR.out (by omega)⟩
            rw [putV_F HSI.out HST.out HYL.out]
            exact HLZ.out.doneF (by simp) (HUS.out.trans (List.take_of_length_le (by have := HE6.out; omega))) HKM.out (by simp; unfold maxLen; omega) (by decide) (by omega) (fun b hb hs => res_set (w := w) b (fun e => by
                rcases hs with h | h
                · have := HSb.out b h; omega
                · omega))
      · obtain ⟨hil, h4⟩ := HLT.out.1 hst
        obtain rfl : hk = 4 := h4
        obtain rfl : f = [] := by
          have := hT.c4
          cases f with
          | nil => rfl
          | cons a b => exact absurd ⟨by decide, by simp⟩ this
        obtain rfl : ks = [] := List.length_eq_zero_iff.1 (by have := HE6.out; simpa using this)
        obtain rfl : n = 0 := by
          have := hT.c1
          by_cases e : n = 0
          · exact e
          · exact absurd ⟨by decide, by decide, e⟩ this
        obtain rfl : t = ByteArray.empty := by
          have := hT.c2
          by_cases e : t.size = 0
          · exact empty_of e
          · exact absurd ⟨by decide, e⟩ this
        have hyl := hyL hst
        have HYL := Lib.hid hyl
        have HST := Lib.hid hst
        have HXC := Lib.hid (Nat.le_trans (cnt_sub (k := 4) (n := 0) (t := ByteArray.empty) (l := l) (ks := []) (f := []) (.inl (List.mem_of_getElem? hyl))) HCN.out)
        have HOP := Lib.hid HH.out.op
        have b0 := HBOX9.out.cell (show 0 < 5 by decide)
        simp only [hdAt, Hd.cells, List.getD_cons_succ, List.getD_cons_zero] at b0
        clear hT hyl hyF hyL hst
        go_wp2_with fail
        have hbd := one_alloc w9 (Obj.cells #[.int .i64 4, .int .i64 0, .string { data := #[] }, .slice none 0 0, .slice none 0 0] 25)
        have hrow : (w9.alloc (Obj.cells #[.int .i64 4, .int .i64 0, .string { data := #[] }, .slice none 0 0, .slice none 0 0] 25)).rowIs w9.heap.size 25 5 (hdAt ⟨4, 0, ByteArray.empty, none, 0, 0, none, 0, 0⟩) := hdAt_row (h := ⟨4, 0, ByteArray.empty, none, 0, 0, none, 0, 0⟩) (heap_alloc_new _ _)
        have hszd : (w9.alloc (Obj.cells #[.int .i64 4, .int .i64 0, .string { data := #[] }, .slice none 0 0, .slice none 0 0] 25)).heap.size = w9.heap.size + 1 := by simp
        generalize w9.alloc (Obj.cells #[.int .i64 4, .int .i64 0, .string { data := #[] }, .slice none 0 0, .slice none 0 0] 25) = wz at hbd hrow hszd ⊢
        have HBZ := Lib.hid (HB9.out.trans (hbd.mono (by omega)))
        have HRESZ := Lib.hid (rowIs_below HRES9.out hbd (by omega))
        have HBOXZ := Lib.hid (rowIs_below HBOX9.out hbd (by omega))
        have HBXXZ := Lib.hid (rowIs_below HBXX9.out hbd (by omega))
        have HROW := Lib.hid hrow
        clear hbd hrow b0 HB9 HRES9 HBOX9 HBXX9 r0 r1 r2
        go_loopw [9] (fun iv wr => ∃ (j : Nat) (us : List Hd) (A' : Option Addr) (c' : Nat), iv = .int .i64 j ∧ j ≤ l.length ∧ LoopZL 4 wz w9.heap.size S (l.set i (putV y p x)) j wr us A' c') (fun iv _ => l.length - (intOf iv).toNat)
        case atStart => exact ⟨0, [], none, 0, rfl, Nat.zero_le _, ⟨Kp.refl _ _, HROW.out, World.ownsRow_nil _ _ _ _, rfl, fun j y u _ hu => by simp at hu⟩⟩
        case round =>
          obtain ⟨j, us, A', c', rfl, hj, hLZ⟩ := hrel
          have HLZ := Lib.hid hLZ
          have hkp := HLZ.out.kp
          have cO := HLZ.out.row.cell (show 3 < 5 by decide)
          have fO := HLZ.out.row.frozen 3
          have hOr := HLZ.out.row.lt
          have hszr := HLZ.out.kp.size
          have HRO := Lib.hid (show some w9.heap.size ≠ (Value.slice A' j c').ownBlock from fun e => by have := own_lo HLZ.out.own e.symm; omega)
          have box := rowIs_below' (B := 0) HBOXZ.out (hkp.block w.heap.size (by omega) HBOXZ.out.lt)
          have bxx := rowIs_below' (B := 0) HBXXZ.out (hkp.block (w.heap.size + 1) (by omega) HBXXZ.out.lt)
          have b3 := box.cell (show 3 < 5 by decide)
          have b4 := box.cell (show 4 < 5 by decide)
          have HBR := Lib.hid (show Below w.heap.size w wr from HBZ.out.trans (hkp.bel.mono (by omega)))
          have hRr : wr.rowIs (w.heap.size + 1 + 1) 25 5 zeroRes := rowIs_below' (B := 0) HRESZ.out (hkp.block (w.heap.size + 1 + 1) (by omega) HRESZ.out.lt)
          have HRR := Lib.hid hRr
          simp only [hdAt, Hd.cells, List.getD_cons_succ, List.getD_cons_zero] at cO b3 b4
          by_cases hlt : j < l.length
          · obtain ⟨xx, hxx⟩ : ∃ xx, l[j]? = some xx := ⟨l[j], List.getElem?_eq_getElem hlt⟩
            obtain ⟨ad2, u, hA2, hSad, hab, hLu, hat2⟩ := HOP.out.L j xx hxx
            obtain ⟨k0, k1, k2, k3, k4⟩ := hat2.below HBR.out hab
            obtain rfl : HA = some ad2 := hA2
            have HLu := Lib.hid hLu
            have HXJ := Lib.hid hxx
            by_cases hij : j = i
            · subst hij
              have x0 := bxx.cell (show 0 < 5 by decide)
              have x1 := bxx.cell (show 1 < 5 by decide)
              have x2 := bxx.cell (show 2 < 5 by decide)
              have x3 := bxx.cell (show 3 < 5 by decide)
              have x4 := bxx.cell (show 4 < 5 by decide)
              simp only [hdAt, Hd.cells, List.getD_cons_succ, List.getD_cons_zero] at x0 x1 x2 x3 x4
              clear hLZ hkp hLu hat2 hxx box bxx hRr
              obtain rfl : xx = y := by have h1 := HXJ.out; rw [HYL.out] at h1; injection h1 with h1; exact h1.symm
              go_upto_region 9 with fail
              have hby := one_alloc wr (Obj.cells #[.int .i64 u.k, .int .i64 u.n, .string u.s, .slice u.A u.la u.lc, .slice u.F u.lf u.fc] 25)
              have hyr : (wr.alloc (Obj.cells #[.int .i64 u.k, .int .i64 u.n, .string u.s, .slice u.A u.la u.lc, .slice u.F u.lf u.fc] 25)).rowIs wr.heap.size 25 5 (hdAt u) := hdAt_row (heap_alloc_new _ _)
              have hsy : (wr.alloc (Obj.cells #[.int .i64 u.k, .int .i64 u.n, .string u.s, .slice u.A u.la u.lc, .slice u.F u.lf u.fc] 25)).heap.size = wr.heap.size + 1 := by simp
              generalize wr.alloc (Obj.cells #[.int .i64 u.k, .int .i64 u.n, .string u.s, .slice u.A u.la u.lc, .slice u.F u.lf u.fc] 25) = wy at hby hyr hsy ⊢
              have HBY := Lib.hid hby
              have HBD := Lib.hid (show Below w.heap.size w wy.drew from (HBR.out.trans (hby.mono HBR.out.size)).trans ((Below.refl _ _).drew))
              have HYR := Lib.hid (show ∀ w5, Below wy.drew.heap.size wy.drew w5 → w5.rowIs wr.heap.size 25 5 (hdAt u) from fun w5 hb => rowIs_below hyr.drew hb (show wr.heap.size < wy.heap.size by omega))
              have hN1 : w.heap.size + 1 < wr.heap.size := by omega
              have HS0 : Hid (X5 (w.heap.size + 1) hx wy.drew) := Lib.hid ⟨(hby.cell (p := ⟨w.heap.size + 1, 0, none⟩) hN1).trans x0, (hby.cell (p := ⟨w.heap.size + 1, 1, none⟩) hN1).trans x1, (hby.cell (p := ⟨w.heap.size + 1, 2, none⟩) hN1).trans x2, (hby.cell (p := ⟨w.heap.size + 1, 3, none⟩) hN1).trans x3, (hby.cell (p := ⟨w.heap.size + 1, 4, none⟩) hN1).trans x4⟩
              have HS1 := Lib.hid (show ∀ w5, Below wy.drew.heap.size wy.drew w5 → X5 (w.heap.size + 1) hx w5 from fun w5 hb => X5.blk HS0.out (hb.block _ (show w.heap.size + 1 < wy.heap.size by omega)))
              have HS2 := Lib.hid (show ∀ w5 (v : Hd), Below wy.drew.heap.size wy.drew w5 → X5 (w.heap.size + 1) hx (resW w5 wr.heap.size v) from fun w5 v hb => X5.blk (HS1.out w5 hb) (res_set (w := w) _ (by omega)))
              have hld : ldY = Op.load 25 (Operand.tmp 10) := rfl
              have y0 := hyr.cell (show 0 < 5 by decide)
              have y1 := hyr.cell (show 1 < 5 by decide)
              have y2 := hyr.cell (show 2 < 5 by decide)
              have y3 := hyr.cell (show 3 < 5 by decide)
              have y4 := hyr.cell (show 4 < 5 by decide)
              simp only [hdAt, Hd.cells, List.getD_cons_succ, List.getD_cons_zero] at y0 y1 y2 y3 y4
              have HY := Lib.hid (show (l.set j (putV xx p x))[j]? = some (putV xx p x) from List.getElem?_set_self hlt)
              clear hby hyr x0 x1 x2 x3 x4
              have HCL := Lib.hid (IH.out xx u wy.drew (some ⟨ad.block, ad.off + 3, none⟩) (m - 1) (c - 1) (fun b hb => by have := HSb.out b hb; show b < wy.heap.size; omega) (HLu.out.below HBD.out (Nat.le_refl _)) (HXX.out.below HBD.out (Nat.le_refl _)) (by have h := HTL.out.below HBD.out (Nat.le_refl _); rwa [add_pos _ (by decide)] at h) (by have := HPL.out; omega) (by omega) HXC.out (RL_mem HRLF.out.1 (List.mem_of_getElem? HXJ.out)) HGY.out)
              go_wp2_with fail
              rw [show Op.load 25 (Operand.tmp 10) = ldY from rfl]
              go_region_held3 (fun w' => w'.cell? ⟨w.heap.size + 1, 0, none⟩ = some (.int .i64 hx.k) ∧ w'.cell? ⟨w.heap.size + 1, 1, none⟩ = some (.int .i64 hx.n) ∧ w'.cell? ⟨w.heap.size + 1, 2, none⟩ = some (.string hx.s) ∧ w'.cell? ⟨w.heap.size + 1, 3, none⟩ = some (.slice hx.A hx.la hx.lc) ∧ w'.cell? ⟨w.heap.size + 1, 4, none⟩ = some (.slice hx.F hx.lf hx.fc))
                (first
                  | (with_reducible exact HS2.out _ _ hb5)
                  | (have h7 := HS1.out _ hb5; with_reducible exact h7)
                  | (have h7 := HS0.out; with_reducible exact h7)
                  | fail)
                (first
                  | (go_at_call 113; refine HCL.out.mono ?_; rintro e w5 ⟨h', rfl, hl5, hb5⟩; have y0 := (HYR.out _ hb5).cell (show 0 < 5 by decide); have yf0 := (HYR.out _ hb5).frozen 0; have y1 := (HYR.out _ hb5).cell (show 1 < 5 by decide); have yf1 := (HYR.out _ hb5).frozen 1; have y2 := (HYR.out _ hb5).cell (show 2 < 5 by decide); have yf2 := (HYR.out _ hb5).frozen 2; have y3 := (HYR.out _ hb5).cell (show 3 < 5 by decide); have yf3 := (HYR.out _ hb5).frozen 3; have y4 := (HYR.out _ hb5).cell (show 4 < 5 by decide); have yf4 := (HYR.out _ hb5).frozen 4; have HL5 := Lib.hid hl5; have HB5 := Lib.hid hb5; clear hl5; simp only [hdAt, Hd.cells, List.getD_cons_succ, List.getD_cons_zero] at y0 y1 y2 y3 y4)
                  | fail)
              all_goals
                clear y0 y1 y2 y3 y4 yf0 yf1 yf2 yf3 yf4
                have hb5w : Below wr.heap.size wr w5 := HBY.out.trans ((show Below wy.heap.size wy w5 from ((Below.refl _ _).drew).trans HB5.out).mono (by omega))
                have hb6 : Below wr.heap.size wr (((((w5.setCell ⟨wr.heap.size, 0, none⟩ (.int .i64 h'.k)).setCell ⟨wr.heap.size, 1, none⟩ (.int .i64 h'.n)).setCell ⟨wr.heap.size, 2, none⟩ (.string h'.s)).setCell ⟨wr.heap.size, 3, none⟩ (.slice h'.A h'.la h'.lc)).setCell ⟨wr.heap.size, 4, none⟩ (.slice h'.F h'.lf h'.fc)) := res_below hb5w (Nat.le_refl _)
                have row6 := resW_row (HYR.out _ HB5.out) (u := h')
                have hs6 : (((((w5.setCell ⟨wr.heap.size, 0, none⟩ (.int .i64 h'.k)).setCell ⟨wr.heap.size, 1, none⟩ (.int .i64 h'.n)).setCell ⟨wr.heap.size, 2, none⟩ (.string h'.s)).setCell ⟨wr.heap.size, 3, none⟩ (.slice h'.A h'.la h'.lc)).setCell ⟨wr.heap.size, 4, none⟩ (.slice h'.F h'.lf h'.fc)).heap.size = w5.heap.size := by simp
                have hk6 : ∀ b, b ≠ wr.heap.size → (((((w5.setCell ⟨wr.heap.size, 0, none⟩ (.int .i64 h'.k)).setCell ⟨wr.heap.size, 1, none⟩ (.int .i64 h'.n)).setCell ⟨wr.heap.size, 2, none⟩ (.string h'.s)).setCell ⟨wr.heap.size, 3, none⟩ (.slice h'.A h'.la h'.lc)).setCell ⟨wr.heap.size, 4, none⟩ (.slice h'.F h'.lf h'.fc)).heap[b]? = w5.heap[b]? := fun b hb => res_set (w := w) b hb
                generalize (((((w5.setCell ⟨wr.heap.size, 0, none⟩ (.int .i64 h'.k)).setCell ⟨wr.heap.size, 1, none⟩ (.int .i64 h'.n)).setCell ⟨wr.heap.size, 2, none⟩ (.string h'.s)).setCell ⟨wr.heap.size, 3, none⟩ (.slice h'.A h'.la h'.lc)).setCell ⟨wr.heap.size, 4, none⟩ (.slice h'.F h'.lf h'.fc)) = w6 at hb6 row6 hs6 hk6 ⊢
                have y0 := row6.cell (show 0 < 5 by decide)
                have y1 := row6.cell (show 1 < 5 by decide)
                have y2 := row6.cell (show 2 < 5 by decide)
                have y3 := row6.cell (show 3 < 5 by decide)
                have y4 := row6.cell (show 4 < 5 by decide)
                simp only [hdAt, Hd.cells, List.getD_cons_succ, List.getD_cons_zero] at y0 y1 y2 y3 y4
                have cO6 := (hb6.cell (p := ⟨w9.heap.size, 3, none⟩) hOr).trans cO
                have fO6 := (hb6.frozen (p := ⟨w9.heap.size, 3, none⟩) hOr).trans fO
                have hO6 : w9.heap.size < w6.heap.size := by have := hb6.size; omega
                have HB6 := Lib.hid hb6
                have HK6 := Lib.hid hk6
                have hs5 : wy.heap.size ≤ w5.heap.size := HB5.out.size
                have HQ := Lib.hid (fun o : Obj => show Below wr.heap.size wr (w6.alloc o) from HB6.out.trans ((one_alloc w6 o).mono HB6.out.size))
                have HS6 := Lib.hid hs6
                have HSY := Lib.hid hsy
                clear hb5w hb6 row6 hk6 hs6 hsy
                go_wp2_with (at_builtin; refine wpList_append_lies _ rfl _ _ 22 rfl wz.heap.size 25 i0 _ 5 80 Try.underlying22 hi0 hz0 hz1 hz2 rfl (by decide) (.slice A' j c') j (us.flatMap Hd.cells) rfl (own_below HLZ.out.own (HQ.out _) (Nat.le_refl _)) ⟨w6.heap.size, 0, none⟩ 1 1 (Hd.cells h') rfl rfl (news_one _ _ rfl) (by simp [Hd.cells, Value.oneCell']) (by decide) (by unfold maxLen; omega) (by omega) (Nat.le_trans HLZ.out.kp.size (HQ.out _).size) _ rfl ?_; intro g cap w3 hown3 hgrow3 hat3 hlt3; have cO3 := cur_gr cO (HQ.out _) hgrow3 HRO.out; have fO3 := cur_grf cO fO (HQ.out _) hgrow3 HRO.out)
                refine ⟨⟨j + 1, us ++ [h'], _, _, by go_num, by omega, HLZ.out.step (by omega) (fun b hb => by have := HSb.out b hb; omega) setc3 HY.out (HQ.out _) ?_ hown3 hgrow3 hat3⟩, by simp [intOf]; omega⟩
                exact liesY HL5.out HSY.out (by have := HS6.out; simp; omega) (by omega) (fun b hb => by have := HSb.out b hb; omega) (fun b hb => own_lo HLZ.out.own hb) (fun b hb hne => by rw [Below.heap_alloc _ _ _ (by have := HS6.out; omega)]; exact HK6.out b hne)
            · have hne : ((j : Int) == (i : Int)) = false := by simp; omega
              have HY := Lib.hid (show (l.set i (putV y p x))[j]? = some xx by rw [List.getElem?_set_ne (by omega)]; exact hxx)
              clear hLZ hkp hLu hat2 hxx box bxx hRr hij
              go_wp2_with (at_builtin; refine wpList_append_lies _ rfl _ _ 22 rfl wz.heap.size 25 i0 _ 5 80 Try.underlying22 hi0 hz0 hz1 hz2 rfl (by decide) (.slice A' j c') j (us.flatMap Hd.cells) rfl (own_below HLZ.out.own (two_allocs wr _ _) (Nat.le_refl _)) ⟨wr.heap.size + 1, 0, none⟩ 1 1 (Hd.cells u) rfl rfl (news_two wr _ _ _) (by simp [Hd.cells, Value.oneCell']) (by decide) (by unfold maxLen; omega) (by omega) (Nat.le_trans HLZ.out.kp.size ((two_allocs wr _ _)).size) _ rfl ?_; intro g cap w3 hown3 hgrow3 hat3 hlt3; have cO3 := cur_gr cO ((two_allocs wr _ _)) hgrow3 HRO.out; have fO3 := cur_grf cO fO ((two_allocs wr _ _)) hgrow3 HRO.out)
              refine ⟨⟨j + 1, us ++ [u], _, _, by go_num, by omega, HLZ.out.step (by omega) (fun b hb => by have := HSb.out b hb; omega) setc3 HY.out (two_allocs wr _ _) ?_ hown3 hgrow3 hat3⟩, by simp [intOf]; omega⟩
              refine Lies.keep (fun q hq hl => (HBR.out.trans ((two_allocs wr _ _).mono HBR.out.size)).cell hl) (fun b hb hl => ⟨.inl hb, ?_, fun e => ?_⟩) _ _ HLu.out
              · simp; omega
              · have := own_lo HLZ.out.own e; omega
          · obtain rfl : j = l.length := by omega
            clear hLZ hkp bxx hRr
            simp only [List.length_nil] at b4
            have HBX := Lib.hid (show wr.cell? ⟨w.heap.size, 4, none⟩ = some (.slice F 0 fc) from b4)
            go_wp2_with fail
            go_loopw [11] (fun iv wr' => iv = .int .i64 0 ∧ wr' = wr) (fun _ _ => 0)
            case atStart => exact ⟨rfl, rfl⟩
            case round =>
              obtain ⟨rfl, rfl⟩ := hrel
              have z0 := HRR.out.cell (show 0 < 5 by decide)
              have z1 := HRR.out.cell (show 1 < 5 by decide)
              have z2 := HRR.out.cell (show 2 < 5 by decide)
              have z3 := HRR.out.cell (show 3 < 5 by decide)
              have z4 := HRR.out.cell (show 4 < 5 by decide)
              have g0 := HRR.out.frozen 0
              have g1 := HRR.out.frozen 1
              have g2 := HRR.out.frozen 2
              have g3 := HRR.out.frozen 3
              have g4 := HRR.out.frozen 4
              have o0 := HLZ.out.row.cell (show 0 < 5 by decide)
              have o1 := HLZ.out.row.cell (show 1 < 5 by decide)
              have o2 := HLZ.out.row.cell (show 2 < 5 by decide)
              have o3 := HLZ.out.row.cell (show 3 < 5 by decide)
              have o4 := HLZ.out.row.cell (show 4 < 5 by decide)
              simp only [hdAt, Hd.cells, List.getD_cons_succ, List.getD_cons_zero] at z0 z1 z2 z3 z4 o0 o1 o2 o3 o4
              go_wp2_with fail
              refine bodyPost_ret (v := .agg #[.int .i64 4, .int .i64 0, .string ByteArray.empty, .slice A' l.length c', .slice none 0 0]) (by simp [results, Try.results113, go_sem, z0, z1, z2, z3, z4]; try rfl) rfl ?_
              refine ⟨⟨4, 0, ByteArray.empty, A', l.length, c', none, 0, 0⟩, rfl, ?_, res_below HBR.out (by omega)⟩
              rw [putV_L HSI.out HST.out HYL.out]
              exact HLZ.out.doneL (by simp) (by simp; unfold maxLen; omega) (by decide) (by omega) (fun b hb hs => res_set (w := w) b (fun e => by
                rcases hs with h | h
                · have := HSb.out b h; omega
                · omega))
end Go.Proofs.Ytmdlcalnncncjaa

/- A stable sort's steps; plain: rows in order, rows turned about, searches between two runs. -/
set_option linter.unusedVariables false
set_option linter.unusedSimpArgs false
namespace Go.Proofs.Ytmdlcalnncncjaa.St
open Go.Sort
variable {α : Type} [Inhabited α]
section
variable (rk : α → Int) (ix : α → Nat)
/-- No later one by rank, and by place where the ranks are one. -/
def le (x y : α) : Prop := rk x < rk y ∨ (rk x = rk y ∧ ix x ≤ ix y)
def Srt (d : Array α) (a b : Nat) : Prop := ∀ i j, a ≤ i → i < j → j < b → le rk ix d[i]! d[j]!
def Old (d : Array α) (a m b : Nat) : Prop := ∀ i j, a ≤ i → i < m → m ≤ j → j < b → ix d[i]! < ix d[j]!
end
variable {rk : α → Int} {ix : α → Nat}
omit [Inhabited α] in
theorem le.trans {x y z : α} (h : le rk ix x y) (k : le rk ix y z) : le rk ix x z := by
  unfold le at *
  omega
omit [Inhabited α] in
theorem le.refl (x : α) : le rk ix x x := .inr ⟨rfl, Nat.le_refl _⟩
omit [Inhabited α] in
theorem le_of_lt {x y : α} (h : rk x < rk y) : le rk ix x y := .inl h
omit [Inhabited α] in
theorem le_of_not {x y : α} (h : ¬ rk y < rk x) (k : ix x < ix y) : le rk ix x y := by unfold le; omega
theorem Srt.le {d : Array α} {a b i j : Nat} (h : Srt rk ix d a b) (h1 : a ≤ i) (h2 : i ≤ j) (h3 : j < b) : le rk ix d[i]! d[j]! := by
  rcases Nat.eq_or_lt_of_le h2 with e | e
  · subst e; exact le.refl _
  · exact h i j h1 e h3
theorem Srt.sub {d : Array α} {a b a' b' : Nat} (h : Srt rk ix d a b) (h1 : a ≤ a') (h2 : b' ≤ b) : Srt rk ix d a' b' := fun i j x y z => h i j (by omega) y (by omega)
theorem Srt.congr {d d' : Array α} {a b : Nat} (h : Srt rk ix d a b) (he : ∀ i, a ≤ i → i < b → d'[i]! = d[i]!) : Srt rk ix d' a b := fun i j x y z => by rw [he i x (by omega), he j (by omega) z]; exact h i j x y z
theorem Srt.one {d : Array α} {a b : Nat} (h : b ≤ a + 1) : Srt rk ix d a b := fun i j x y z => by omega
theorem Srt.glue {d : Array α} {a m b : Nat} (h1 : Srt rk ix d a m) (h2 : Srt rk ix d m b) (h3 : ∀ i j, a ≤ i → i < m → m ≤ j → j < b → St.le rk ix d[i]! d[j]!) : Srt rk ix d a b := fun i j x y z => by
  by_cases e1 : j < m
  · exact h1 i j x y e1
  · by_cases e2 : m ≤ i
    · exact h2 i j e2 y z
    · exact h3 i j x (by omega) (by omega) z
/-- The row d with what stands in [s, m) and in [m, e) exchanged: which place each one comes from. -/
def src (s m e q : Nat) : Nat := if q < s ∨ e ≤ q then q else if q < s + (e - m) then m + (q - s) else s + (q - s - (e - m))
def Rot (d d' : Array α) (s m e : Nat) : Prop := d'.size = d.size ∧ ∀ q, d'[q]! = d[src s m e q]!
theorem src_out {s m e q : Nat} (h : q < s ∨ e ≤ q) : src s m e q = q := by unfold src; rw [if_pos h]
theorem src_l {s m e q : Nat} (h1 : s ≤ q) (h2 : q < s + (e - m)) (hm : s ≤ m) (he : m ≤ e) : src s m e q = m + (q - s) := by unfold src; rw [if_neg (by omega), if_pos h2]
theorem src_r {s m e q : Nat} (h1 : s + (e - m) ≤ q) (h2 : q < e) (hm : s ≤ m) (he : m ≤ e) : src s m e q = q - (e - m) := by unfold src; rw [if_neg (by omega), if_neg (by omega)]; omega
theorem Rot.nil {d : Array α} {s m e : Nat} (h : m = s ∨ m = e) (hm : s ≤ m) (he : m ≤ e) : Rot d d s m e := by
  refine ⟨rfl, fun q => ?_⟩
  by_cases h1 : q < s ∨ e ≤ q
  · rw [src_out h1]
  · by_cases h2 : q < s + (e - m)
    · rw [src_l (by omega) h2 hm he]
      congr 1
      omega
    · rw [src_r (by omega) (by omega) hm he]
      congr 1
      omega
/-- One element shifted on, behind the next one. -/
theorem Rot.up {d d' : Array α} {a e : Nat} (h : Rot d d' a (a + 1) e) (hae : a + 1 ≤ e) (hs : e < d.size) : Rot d (swp d' (e - 1) e) a (a + 1) (e + 1) := by
  refine ⟨by rw [size_swp, h.1], fun q => ?_⟩
  have hs' : d'.size = d.size := h.1
  by_cases e1 : q = e - 1
  · subst e1
    rw [swp_left _ _ _ (by omega) (by omega), h.2 e, src_out (by omega), src_l (by omega) (by omega) (by omega) (by omega)]
    congr 1
    omega
  · by_cases e2 : q = e
    · subst e2
      rw [swp_right _ _ _ (by omega), h.2 (q - 1), src_r (by omega) (by omega) (by omega) (by omega), src_r (by omega) (by omega) (by omega) (by omega)]
      congr 1
      omega
    · rw [swp_other _ _ _ _ e1 e2, h.2 q]
      by_cases o : q < a ∨ e ≤ q
      · rw [src_out o, src_out (by omega)]
      · rw [src_l (by omega) (by omega) (by omega) (by omega), src_l (by omega) (by omega) (by omega) (by omega)]
/-- One element shifted on, ahead of the one ahead. -/
theorem Rot.down {d d' : Array α} {s m : Nat} (h : Rot d d' s m (m + 1)) (hsm : s ≤ m) (h0 : 0 < s) (hs : m < d.size) : Rot d (swp d' s (s - 1)) (s - 1) m (m + 1) := by
  refine ⟨by rw [size_swp, h.1], fun q => ?_⟩
  have hs' : d'.size = d.size := h.1
  by_cases e1 : q = s
  · subst e1
    rw [swp_left _ _ _ (by omega) (by omega), h.2 (q - 1), src_out (by omega), src_r (by omega) (by omega) (by omega) (by omega)]
    congr 1
    omega
  · by_cases e2 : q = s - 1
    · subst e2
      rw [swp_right _ _ _ (by omega), h.2 s, src_l (by omega) (by omega) (by omega) (by omega), src_l (by omega) (by omega) (by omega) (by omega)]
      congr 1
      omega
    · rw [swp_other _ _ _ _ e1 e2, h.2 q]
      by_cases o : q < s ∨ m + 1 ≤ q
      · rw [src_out o, src_out (by omega)]
      · rw [src_r (by omega) (by omega) (by omega) (by omega), src_r (by omega) (by omega) (by omega) (by omega)]
/-- Two stretches exchanged, so far. -/
def Swd (d d' : Array α) (a b n : Nat) : Prop := d'.size = d.size ∧ (∀ t, t < n → d'[a + t]! = d[b + t]! ∧ d'[b + t]! = d[a + t]!) ∧ ∀ q, (q < a ∨ a + n ≤ q) → (q < b ∨ b + n ≤ q) → d'[q]! = d[q]!
theorem Swd.zero (d : Array α) (a b : Nat) : Swd d d a b 0 := ⟨rfl, fun t h => by omega, fun _ _ _ => rfl⟩
theorem Swd.step {d d' : Array α} {a b n N : Nat} (h : Swd d d' a b n) (hn : n < N) (hd : a + N ≤ b) (hs : b + N ≤ d.size) : Swd d (swp d' (a + n) (b + n)) a b (n + 1) := by
  obtain ⟨h1, h2, h3⟩ := h
  refine ⟨by rw [size_swp, h1], fun t ht => ?_, fun q hq hq2 => ?_⟩
  · by_cases e : t = n
    · subst e
      rw [swp_left _ _ _ (by omega) (by omega), swp_right _ _ _ (by omega)]
      exact ⟨h3 _ (by omega) (by omega), h3 _ (by omega) (by omega)⟩
    · rw [swp_other _ _ _ _ (by omega) (by omega), swp_other _ _ _ _ (by omega) (by omega)]
      exact h2 t (by omega)
  · rw [swp_other _ _ _ _ (by omega) (by omega)]
    exact h3 q (by omega) (by omega)
/-- Where the exchange of two neighbours stands: what is still to be exchanged is [m - i, m) and [m, m + j). -/
def Win (d D : Array α) (s m e i j : Nat) : Prop := D.size = d.size ∧ s ≤ m - i ∧ i ≤ m ∧ m + j ≤ e ∧ 0 < i ∧ 0 < j ∧ (∀ q, q < m - i ∨ m + j ≤ q → D[q]! = d[src s m e q]!) ∧ (∀ t, t < j → D[m + t]! = d[src s m e (m - i + t)]!) ∧ (∀ t, t < i → D[m - i + t]! = d[src s m e (m - i + j + t)]!)
theorem Win.start {d : Array α} {s m e : Nat} (h1 : s < m) (h2 : m < e) : Win d d s m e (m - s) (e - m) := by
  refine ⟨rfl, by omega, by omega, by omega, by omega, by omega, fun q hq => ?_, fun t ht => ?_, fun t ht => ?_⟩
  · rw [src_out (by omega)]
  · rw [src_l (by omega) (by omega) (by omega) (by omega)]; congr 1; omega
  · rw [src_r (by omega) (by omega) (by omega) (by omega)]; congr 1; omega
theorem Win.left {d D D' : Array α} {s m e i j : Nat} (h : Win d D s m e i j) (hij : j < i) (hs : Swd D D' (m - i) m j) : Win d D' s m e (i - j) j := by
  obtain ⟨a1, a2, a3, a4, a5, a6, a7, a8, a9⟩ := h
  obtain ⟨b1, b2, b3⟩ := hs
  refine ⟨b1.trans a1, by omega, by omega, by omega, by omega, a6, fun q hq => ?_, fun t ht => ?_, fun t ht => ?_⟩
  · by_cases e1 : m - i ≤ q ∧ q < m - i + j
    · have := (b2 (q - (m - i)) (by omega)).1
      rw [show m - i + (q - (m - i)) = q by omega] at this
      rw [this, a8 _ (by omega)]
      congr 2
      omega
    · rw [b3 q (by omega) (by omega)]
      exact a7 q (by omega)
  · rw [(b2 t ht).2, a9 t (by omega)]
    congr 2
    omega
  · rw [b3 _ (by omega) (by omega), show m - (i - j) + t = m - i + (j + t) by omega, a9 (j + t) (by omega)]
    congr 2
    omega
theorem Win.right {d D D' : Array α} {s m e i j : Nat} (h : Win d D s m e i j) (hij : i < j) (hs : Swd D D' (m - i) (m + j - i) i) : Win d D' s m e i (j - i) := by
  obtain ⟨a1, a2, a3, a4, a5, a6, a7, a8, a9⟩ := h
  obtain ⟨b1, b2, b3⟩ := hs
  refine ⟨b1.trans a1, by omega, by omega, by omega, by omega, by omega, fun q hq => ?_, fun t ht => ?_, fun t ht => ?_⟩
  · by_cases e1 : m + (j - i) ≤ q ∧ q < m + j
    · have := (b2 (q - (m + j - i)) (by omega)).2
      rw [show m + j - i + (q - (m + j - i)) = q by omega] at this
      rw [this, a9 _ (by omega)]
      congr 2
      omega
    · rw [b3 q (by omega) (by omega)]
      exact a7 q (by omega)
  · rw [b3 _ (by omega) (by omega), a8 t (by omega)]
  · rw [(b2 t ht).1, show m + j - i + t = m + (j - i + t) by omega, a8 _ (by omega)]
    congr 2
    omega
theorem Win.done {d D D' : Array α} {s m e i : Nat} (h : Win d D s m e i i) (hs : Swd D D' (m - i) m i) : Rot d D' s m e := by
  obtain ⟨a1, a2, a3, a4, a5, a6, a7, a8, a9⟩ := h
  obtain ⟨b1, b2, b3⟩ := hs
  refine ⟨b1.trans a1, fun q => ?_⟩
  by_cases e1 : q < m - i ∨ m + i ≤ q
  · rw [b3 q (by omega) (by omega)]
    exact a7 q e1
  · by_cases e2 : q < m
    · have := (b2 (q - (m - i)) (by omega)).1
      rw [show m - i + (q - (m - i)) = q by omega] at this
      rw [this, a8 _ (by omega)]
      congr 2
      omega
    · have := (b2 (q - m) (by omega)).2
      rw [show m + (q - m) = q by omega] at this
      rw [this, a9 _ (by omega)]
      congr 2
      omega
/-- What a row of two runs, turned about at [s, m) and [m, e), is: four runs. -/
theorem Rot.runs {d d' : Array α} {a s m e b : Nat} (h : Rot d d' s m e) (has : a ≤ s) (hsm : s ≤ m) (hme : m ≤ e) (heb : e ≤ b) (h1 : Srt rk ix d a m) (h2 : Srt rk ix d m b) (ho : Old ix d a m b) :
    Srt rk ix d' a s ∧ Srt rk ix d' s (s + (e - m)) ∧ Srt rk ix d' (s + (e - m)) e ∧ Srt rk ix d' e b ∧ Old ix d' a s (s + (e - m)) ∧ Old ix d' (s + (e - m)) e b := by
  have g1 : ∀ q, q < s → d'[q]! = d[q]! := fun q hq => by rw [h.2 q, src_out (.inl hq)]
  have g2 : ∀ q, s ≤ q → q < s + (e - m) → d'[q]! = d[m + (q - s)]! := fun q x y => by rw [h.2 q, src_l x y hsm hme]
  have g3 : ∀ q, s + (e - m) ≤ q → q < e → d'[q]! = d[q - (e - m)]! := fun q x y => by rw [h.2 q, src_r x y hsm hme]
  have g4 : ∀ q, e ≤ q → d'[q]! = d[q]! := fun q hq => by rw [h.2 q, src_out (.inr hq)]
  refine ⟨fun i j x y z => ?_, fun i j x y z => ?_, fun i j x y z => ?_, fun i j x y z => ?_, fun i j x y z w => ?_, fun i j x y z w => ?_⟩
  · rw [g1 i (by omega), g1 j z]; exact h1 i j x y (by omega)
  · rw [g2 i x (by omega), g2 j (by omega) z]; exact h2 _ _ (by omega) (by omega) (by omega)
  · rw [g3 i x (by omega), g3 j (by omega) z]; exact h1 _ _ (by omega) (by omega) (by omega)
  · rw [g4 i x, g4 j (by omega)]; exact h2 i j (by omega) y z
  · rw [g1 i y, g2 j z w]; exact ho _ _ x (by omega) (by omega) (by omega)
  · rw [g3 i x y, g4 j z]; exact ho _ _ (by omega) (by omega) (by omega) w
/-- A search between two runs has parted them: all of the first parts is ahead of all of the second ones. -/
theorem Rot.cross {d d' : Array α} {a s m e b : Nat} (h : Rot d d' s m e) (has : a ≤ s) (hsm : s ≤ m) (hme : m ≤ e) (heb : e ≤ b) (h1 : Srt rk ix d a m) (h2 : Srt rk ix d m b)
    (x1 : a < s → e < b → le rk ix d[s - 1]! d[e]!) (x2 : m < e → s < m → le rk ix d[e - 1]! d[s]!) :
    ∀ i j, a ≤ i → i < s + (e - m) → s + (e - m) ≤ j → j < b → le rk ix d'[i]! d'[j]! := by
  intro i j hi hi2 hj hj2
  have e1 : (i < s ∧ src s m e i = i) ∨ (s ≤ i ∧ src s m e i = m + (i - s)) := by
    by_cases q : i < s
    · exact .inl ⟨q, src_out (.inl q)⟩
    · exact .inr ⟨by omega, src_l (by omega) hi2 hsm hme⟩
  have e2 : (j < e ∧ src s m e j = j - (e - m)) ∨ (e ≤ j ∧ src s m e j = j) := by
    by_cases q : j < e
    · exact .inl ⟨q, src_r hj q hsm hme⟩
    · exact .inr ⟨by omega, src_out (.inr (by omega))⟩
  rw [h.2 i, h.2 j]
  rcases e1 with ⟨a1, a2⟩ | ⟨a1, a2⟩ <;> rcases e2 with ⟨b1, b2⟩ | ⟨b1, b2⟩ <;> rw [a2, b2]
  · exact h1.le hi (by omega) (by omega)
  · exact ((h1.le hi (by omega : i ≤ s - 1) (by omega)).trans (x1 (by omega) (by omega))).trans (h2.le (by omega) b1 hj2)
  · exact ((h2.le (by omega) (by omega : m + (i - s) ≤ e - 1) (by omega)).trans (x2 (by omega) (by omega))).trans (h1.le (by omega) (by omega) (by omega))
  · exact h2.le (by omega) (by omega) hj2
/-- What a search between two runs knows: ahead of 'lo' the element of the first run is ahead of its partner in the second one, from 'hi' on it is behind. -/
def Fnd (rk : α → Int) (ix : α → Nat) (d : Array α) (l0 r0 p lo hi : Nat) : Prop := l0 ≤ lo ∧ lo ≤ hi ∧ hi ≤ r0 ∧ (l0 < lo → le rk ix d[lo - 1]! d[p - (lo - 1)]!) ∧ (hi < r0 → le rk ix d[p - hi]! d[hi]!)
theorem Fnd.start {d : Array α} {l0 r0 p : Nat} (h : l0 ≤ r0) : Fnd rk ix d l0 r0 p l0 r0 := ⟨Nat.le_refl _, h, Nat.le_refl _, fun h => by omega, fun h => by omega⟩
theorem Fnd.yes {d : Array α} {l0 r0 p lo hi c : Nat} (h : Fnd rk ix d l0 r0 p lo hi) (h1 : lo ≤ c) (h2 : c < hi) (hc : le rk ix d[c]! d[p - c]!) : Fnd rk ix d l0 r0 p (c + 1) hi := by
  obtain ⟨a1, a2, a3, a4, a5⟩ := h
  exact ⟨by omega, by omega, a3, fun _ => by simpa using hc, a5⟩
theorem Fnd.no {d : Array α} {l0 r0 p lo hi c : Nat} (h : Fnd rk ix d l0 r0 p lo hi) (h1 : lo ≤ c) (h2 : c < hi) (hc : le rk ix d[p - c]! d[c]!) : Fnd rk ix d l0 r0 p lo c := by
  obtain ⟨a1, a2, a3, a4, a5⟩ := h
  exact ⟨by omega, by omega, by omega, a4, fun _ => hc⟩
/-- The same for one element against a run: it is at x; the run's first ones are ahead of it. -/
def Fnd1 (rk : α → Int) (ix : α → Nat) (d : Array α) (x l0 r0 lo hi : Nat) : Prop := l0 ≤ lo ∧ lo ≤ hi ∧ hi ≤ r0 ∧ (l0 < lo → le rk ix d[lo - 1]! d[x]!) ∧ (hi < r0 → le rk ix d[x]! d[hi]!)
theorem Fnd1.start {d : Array α} {x l0 r0 : Nat} (h : l0 ≤ r0) : Fnd1 rk ix d x l0 r0 l0 r0 := ⟨Nat.le_refl _, h, Nat.le_refl _, fun h => by omega, fun h => by omega⟩
theorem Fnd1.yes {d : Array α} {x l0 r0 lo hi c : Nat} (h : Fnd1 rk ix d x l0 r0 lo hi) (h1 : lo ≤ c) (h2 : c < hi) (hc : le rk ix d[c]! d[x]!) : Fnd1 rk ix d x l0 r0 (c + 1) hi := by
  obtain ⟨a1, a2, a3, a4, a5⟩ := h
  exact ⟨by omega, by omega, a3, fun _ => by simpa using hc, a5⟩
theorem Fnd1.no {d : Array α} {x l0 r0 lo hi c : Nat} (h : Fnd1 rk ix d x l0 r0 lo hi) (h1 : lo ≤ c) (h2 : c < hi) (hc : le rk ix d[x]! d[c]!) : Fnd1 rk ix d x l0 r0 lo c := by
  obtain ⟨a1, a2, a3, a4, a5⟩ := h
  exact ⟨by omega, by omega, by omega, a4, fun _ => hc⟩
/-- What a merge leaves. -/
def Mrg (rk : α → Int) (ix : α → Nat) (d d' : Array α) (a b : Nat) : Prop := PermIn a b d d' ∧ Srt rk ix d' a b
theorem Mrg.of_rot {d d' : Array α} {a s m e b : Nat} (h : Rot d d' s m e) (hp : PermIn a b d d') (has : a ≤ s) (hsm : s ≤ m) (hme : m ≤ e) (heb : e ≤ b) (h1 : Srt rk ix d a m) (h2 : Srt rk ix d m b) (ho : Old ix d a m b)
    (x1 : a < s → e < b → le rk ix d[s - 1]! d[e]!) (x2 : m < e → s < m → le rk ix d[e - 1]! d[s]!) (hl : a = s ∨ s = s + (e - m)) (hr : s + (e - m) = e ∨ e = b) : Mrg rk ix d d' a b := by
  obtain ⟨r1, r2, r3, r4, -, -⟩ := h.runs has hsm hme heb h1 h2 ho
  have hc := h.cross has hsm hme heb h1 h2 x1 x2
  refine ⟨hp, Srt.glue (m := s + (e - m)) ?_ ?_ hc⟩
  · rcases hl with q | q
    · rw [q]; exact r2
    · rw [← q]; exact r1
  · rcases hr with q | q
    · rw [q]; exact r4
    · rw [← q]; exact r3
/-- One element put into its place. -/
theorem Mrg.of_ins {d d' : Array α} {a s m e b : Nat} (h : Rot d d' s m e) (hp : PermIn a b d d') (has : a ≤ s) (hsm : s ≤ m) (hme : m ≤ e) (heb : e ≤ b) (h1 : Srt rk ix d a m) (h2 : Srt rk ix d m b) (ho : Old ix d a m b)
    (x1 : a < s → e < b → le rk ix d[s - 1]! d[e]!) (x2 : m < e → s < m → le rk ix d[e - 1]! d[s]!) (y1 : s < m → e < b → le rk ix d[m - 1]! d[e]!) (y2 : a < s → m < e → le rk ix d[s - 1]! d[m]!) : Mrg rk ix d d' a b := by
  obtain ⟨r1, r2, r3, r4, -, -⟩ := h.runs has hsm hme heb h1 h2 ho
  have hc := h.cross has hsm hme heb h1 h2 x1 x2
  refine ⟨hp, Srt.glue (m := s + (e - m)) (Srt.glue (m := s) r1 r2 fun i j i1 i2 j1 j2 => ?_) (Srt.glue (m := e) r3 r4 fun i j i1 i2 j1 j2 => ?_) hc⟩
  · rw [h.2 i, h.2 j, src_out (.inl i2), src_l j1 j2 hsm hme]
    exact ((h1.le i1 (by omega : i ≤ s - 1) (by omega)).trans (y2 (by omega) (by omega))).trans (h2.le (Nat.le_refl _) (by omega) (by omega))
  · rw [h.2 i, h.2 j, src_r i1 i2 hsm hme, src_out (.inr j1)]
    exact ((h1.le (by omega) (by omega : i - (e - m) ≤ m - 1) (by omega)).trans (y1 (by omega) (by omega))).trans (h2.le (by omega) j1 j2)
/-- Both halves merged. -/
theorem Mrg.halves {d d1 d2 d3 : Array α} {a s m e b k : Nat} (h : Rot d d1 s m e) (hk : k = s + (e - m)) (hp : PermIn a b d d1) (has : a ≤ s) (hsm : s ≤ m) (hme : m ≤ e) (heb : e ≤ b) (hb : b ≤ d.size) (h1 : Srt rk ix d a m) (h2 : Srt rk ix d m b)
    (x1 : a < s → e < b → le rk ix d[s - 1]! d[e]!) (x2 : m < e → s < m → le rk ix d[e - 1]! d[s]!) (m1 : Mrg rk ix d1 d2 a k) (m2 : Mrg rk ix d2 d3 k b) : Mrg rk ix d d3 a b := by
  subst hk
  have hc := h.cross has hsm hme heb h1 h2 x1 x2
  have z1 : d1.size = d.size := h.1
  have z2 : d2.size = d1.size := m1.1.1
  have z3 : d3.size = d2.size := m2.1.1
  refine ⟨permIn_trans _ _ _ a b hp (permIn_trans _ _ _ a b (permIn_mono _ _ a (s + (e - m)) a b (Nat.le_refl _) (by omega) (by omega) m1.1) (permIn_mono _ _ (s + (e - m)) b a b (by omega) (Nat.le_refl _) (by omega) m2.1)), ?_⟩
  have s1 : Srt rk ix d3 a (s + (e - m)) := m1.2.congr fun i _ y => m2.1.2.1 i (.inl y)
  refine Srt.glue (m := s + (e - m)) s1 m2.2 ?_
  have c1 : ∀ i, a ≤ i → i < s + (e - m) → ∀ j, s + (e - m) ≤ j → j < b → le rk ix d3[i]! d1[j]! := fun i x y j z w => by
    rw [m2.1.2.1 i (.inl y)]
    exact permIn_all d1 d2 a (s + (e - m)) (fun v => le rk ix v d1[j]!) (by omega) m1.1 (fun q q1 q2 => hc q j q1 q2 z w) i x y
  intro i j x y z w
  refine permIn_all d2 d3 (s + (e - m)) b (fun v => le rk ix d3[i]! v) (by omega) m2.1 (fun q q1 q2 => ?_) j z w
  rw [m1.1.2.1 q (.inr q1)]
  exact c1 i x y q q1 q2
end Go.Proofs.Ytmdlcalnncncjaa.St
