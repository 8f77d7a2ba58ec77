/- Several of the texts that this claim leans on, one behind the other. -/
import Derived.Test.YtmdlcalnncncjaaJoined1TreeOrders
import Derived.Deep.RegionHeld3
import Derived.Deep.CutRange
import Derived.Test.YtmdlcalnncncjaaTPlace
import Derived.Deep.QuietTactic
import Derived.BigQuiet
import Derived.Test.YtmdlcalnncncjaaTGet
import Derived.Shelf.GgSortFunc.InsertionK
import Derived.Laws.Cover1
import Derived.Shelf.SlSortCmp.InsertionK
import Derived.Test.YtmdlcalnncncjaaTProgC
import Derived.Test.YtmdlcalnncncjaaTAnewB
import Derived.Shelf.SlSortCmp.WholeK
import Derived.Test.YtmdlcalnncncjaaTPlaces
import Derived.ProofKit
import Derived.OpenShut
import Derived.ShutString
import Derived.ChangeOld
import Derived.SliceStrings
/- path.replaced. -/
set_option linter.unusedVariables false
set_option linter.unusedSimpArgs false
namespace Go.Proofs.Ytmdlcalnncncjaa
open Go.RowKit
/-- What replaced answers. -/
def RepR (S : Nat → Prop) (b : Va) (w : World) (e : Ending) (w' : World) : Prop := ∃ h', e = .returned (.agg #[.int .i64 h'.k, .int .i64 h'.n, .string h'.s, .slice h'.A h'.la h'.lc, .slice h'.F h'.lf h'.fc]) ∧ Lies w' (fun b => S b ∨ w.heap.size ≤ b) b h' ∧ Below w.heap.size w w'
/-- What is answered, written into the result's block. -/
abbrev resW (w : World) (R : Nat) (u : Hd) : World := ((((w.setCell ⟨R, 0, none⟩ (.int .i64 u.k)).setCell ⟨R, 1, none⟩ (.int .i64 u.n)).setCell ⟨R, 2, none⟩ (.string u.s)).setCell ⟨R, 3, none⟩ (.slice u.A u.la u.lc)).setCell ⟨R, 4, none⟩ (.slice u.F u.lf u.fc)
theorem putL_below {B g o : Nat} {w w' : World} {u : Hd} (h : Below B w w') (hg : B ≤ g) : Below B w (putL w' g o u) := ((((h.setCell hg _).setCell hg _).setCell hg _).setCell hg _).setCell hg _
theorem put5_below {B g o : Nat} {w w' : World} {u : Hd} (h : Below B w w') (hg : B ≤ g) : Below B w (put5 w' g o u) := ((((h.setCell hg _).setCell hg _).setCell hg _).setCell hg _).setCell hg _
theorem rep_L {S : Nat → Prop} {k n : Int} {t : ByteArray} {l : List Va} {ks : List ByteArray} {f : List Va} {h : Hd} {us : List Hd} {w w11 w5 : World} {R g i cap : Nat} {y' b' : Va} {u' : Hd} (H : Lies w S (.mk k n t l ks f) h) (hus : LiesL w S l us) (hSb : ∀ b, S b → b < w.heap.size) (hbel : Below w.heap.size w w11)
    (hg : w.heap.size ≤ g) (hgR : g ≠ R) (hR : w.heap.size ≤ R) (hR11 : R < w11.heap.size) (hg11 : g < w11.heap.size) (hb5 : Below w11.heap.size w11 w5) (hown : w11.ownsRow w.heap.size 25 5 (.slice (some ⟨g, 0, none⟩) l.length cap) l.length (us.flatMap Hd.cells)) (hi : i < l.length)
    (hy : Lies w5 (fun b => S b ∨ w11.heap.size ≤ b) y' u') (hv : b' = .mk k n t (l.set i y') ks f) :
    RepR S b' w (.returned (.agg #[.int .i64 h.k, .int .i64 h.n, .string h.s, .slice (some ⟨g, 0, none⟩) l.length cap, .slice h.F h.lf h.fc])) (resW (putL w5 g (i * 5) u') R ⟨h.k, h.n, h.s, some ⟨g, 0, none⟩, l.length, cap, h.F, h.lf, h.fc⟩) := by
  subst hv
  have hs11 := hbel.size
  have hbw5 : Below w.heap.size w w5 := hbel.trans (hb5.mono hs11)
  have hblk : ∀ b, b ≠ R → b ≠ g → (resW (putL w5 g (i * 5) u') R ⟨h.k, h.n, h.s, some ⟨g, 0, none⟩, l.length, cap, h.F, h.lf, h.fc⟩).heap[b]? = w5.heap[b]? := fun b h1 h2 => (res_set (w := w) b h1).trans (putL_blk h2)
  refine ⟨⟨h.k, h.n, h.s, some ⟨g, 0, none⟩, l.length, cap, h.F, h.lf, h.fc⟩, rfl, ?_, res_below (putL_below hbw5 hg) hR⟩
  refine lies_setL (wc := w5) H hus (fun b hb => .inl hb) (fun b hb => ⟨hSb b hb, ?_⟩) (.inr hg) hi (own_below hown hb5 (Nat.le_refl _)) (fun p => World.cell?_of_block (a := ⟨g, p, none⟩) (res_set (w := w) g hgR)) ?_
  · have := hSb b hb
    rw [hblk b (by omega) (by omega)]
    exact hbw5.block b this
  · refine Lies.keep (fun q hq _ => World.cell?_of_block (hblk _ ?_ ?_)) (fun b hb _ => ?_) _ _ hy
    · rcases hq with hq | hq
      · have := hSb _ hq; omega
      · omega
    · rcases hq with hq | hq
      · have := hSb _ hq; omega
      · omega
    · rcases hb with hb | hb
      · exact .inl hb
      · exact .inr (by omega)
theorem rep_F {S : Nat → Prop} {k n : Int} {t : ByteArray} {l : List Va} {ks : List ByteArray} {f : List Va} {h : Hd} {vs : List Hd} {w w11 w5 : World} {R g i cap : Nat} {y' b' : Va} {u' : Hd} (H : Lies w S (.mk k n t l ks f) h) (hvs : LiesL w S f vs) (hSb : ∀ b, S b → b < w.heap.size) (hbel : Below w.heap.size w w11)
    (hg : w.heap.size ≤ g) (hgR : g ≠ R) (hR : w.heap.size ≤ R) (hR11 : R < w11.heap.size) (hg11 : g < w11.heap.size) (hb5 : Below w11.heap.size w11 w5) (hown : w11.ownsRow w.heap.size 36 6 (.slice (some ⟨g, 0, none⟩) f.length cap) f.length ((ks.zip vs).flatMap pcells)) (hi : i < f.length)
    (hy : Lies w5 (fun b => S b ∨ w11.heap.size ≤ b) y' u') (hv : b' = .mk k n t l ks (f.set i y')) :
    RepR S b' w (.returned (.agg #[.int .i64 h.k, .int .i64 h.n, .string h.s, .slice h.A h.la h.lc, .slice (some ⟨g, 0, none⟩) f.length cap])) (resW (put5 w5 g (i * 6) u') R ⟨h.k, h.n, h.s, h.A, h.la, h.lc, some ⟨g, 0, none⟩, f.length, cap⟩) := by
  subst hv
  have hs11 := hbel.size
  have hbw5 : Below w.heap.size w w5 := hbel.trans (hb5.mono hs11)
  have hblk : ∀ b, b ≠ R → b ≠ g → (resW (put5 w5 g (i * 6) u') R ⟨h.k, h.n, h.s, h.A, h.la, h.lc, some ⟨g, 0, none⟩, f.length, cap⟩).heap[b]? = w5.heap[b]? := fun b h1 h2 => (res_set (w := w) b h1).trans (put5_blk h2)
  refine ⟨⟨h.k, h.n, h.s, h.A, h.la, h.lc, some ⟨g, 0, none⟩, f.length, cap⟩, rfl, ?_, res_below (put5_below hbw5 hg) hR⟩
  refine lies_setF (wc := w5) H hvs (fun b hb => .inl hb) (fun b hb => ⟨hSb b hb, ?_⟩) (.inr hg) hi (own_below hown hb5 (Nat.le_refl _)) (fun p => World.cell?_of_block (a := ⟨g, p, none⟩) (res_set (w := w) g hgR)) ?_
  · have := hSb b hb
    rw [hblk b (by omega) (by omega)]
    exact hbw5.block b this
  · refine Lies.keep (fun q hq _ => World.cell?_of_block (hblk _ ?_ ?_)) (fun b hb _ => ?_) _ _ hy
    · rcases hq with hq | hq
      · have := hSb _ hq; omega
      · omega
    · rcases hq with hq | hq
      · have := hSb _ hq; omega
      · omega
    · rcases hb with hb | hb
      · exact .inl hb
      · exact .inr (by omega)
/-- The load of the element, under a name. -/
def ldE : Op := Op.load 25 (Operand.tmp 31)
def ldEF : Op := Op.load 25 (Operand.tmp 50)
/-- A slice of the value's box, and what is put. -/
abbrev S6 (N o : Nat) (v : Value) (M : Nat) (x : Hd) (w : World) : Prop := w.cell? ⟨N, o, none⟩ = some v ∧ w.cell? ⟨M, 0, none⟩ = some (.int .i64 x.k) ∧ w.cell? ⟨M, 1, none⟩ = some (.int .i64 x.n) ∧ w.cell? ⟨M, 2, none⟩ = some (.string x.s) ∧ w.cell? ⟨M, 3, none⟩ = some (.slice x.A x.la x.lc) ∧ w.cell? ⟨M, 4, none⟩ = some (.slice x.F x.lf x.fc)
theorem S6.blk {N o M : Nat} {v : Value} {x : Hd} {w w' : World} (h : S6 N o v M x w) (hN : w'.heap[N]? = w.heap[N]?) (hM : w'.heap[M]? = w.heap[M]?) : S6 N o v M x w' :=
  ⟨(World.cell?_of_block (a := ⟨N, o, none⟩) hN).trans h.1, (World.cell?_of_block (a := ⟨M, 0, none⟩) hM).trans h.2.1, (World.cell?_of_block (a := ⟨M, 1, none⟩) hM).trans h.2.2.1, (World.cell?_of_block (a := ⟨M, 2, none⟩) hM).trans h.2.2.2.1, (World.cell?_of_block (a := ⟨M, 3, none⟩) hM).trans h.2.2.2.2.1, (World.cell?_of_block (a := ⟨M, 4, none⟩) hM).trans h.2.2.2.2.2⟩
theorem three_allocs (w : World) (o1 o2 o3 : Obj) : Below w.heap.size w (((w.alloc o1).alloc o2).alloc o3) := ((((Below.refl _ _).alloc (Nat.le_refl _) _).alloc (by simp) _).alloc (by simp; omega) _)
set_option maxHeartbeats 16000000 in
set_option maxRecDepth 100000 in
theorem replaced_any (S : Nat → Prop) (x : Va) (hx : Hd) (p : List St) : ∀ (a : Va) (h : Hd) (w : World) (A : Option Addr) (m c : Nat), (∀ b, S b → b < w.heap.size) → Lies w S a h → Lies w S x hx → PathAt w A p → (∀ s ∈ p, StR s) → m = p.length → m ≤ c → m ≤ 1000 → a.cnt ≤ 1000 → (goV a p).isSome = true →
    Calls Try.prog 112 #[h.val, .slice A m c, hx.val] w fun e w' => RepR S (putV a p x) w e w' := by
  induction p with
  | nil =>
    intro a h w A m c hSb H HX hA hR hm hc hp hcn hgo
    obtain rfl : m = 0 := hm
    have HXX := Lib.hid HX
    have HB3 := Lib.hid (three_allocs w (Obj.cells #[.int .i64 h.k, .int .i64 h.n, .string h.s, .slice h.A h.la h.lc, .slice h.F h.lf h.fc] 25) (Obj.cells #[.int .i64 hx.k, .int .i64 hx.n, .string hx.s, .slice hx.A hx.la hx.lc, .slice hx.F hx.lf hx.fc] 25) (Obj.cells #[.int .i64 hx.k, .int .i64 hx.n, .string hx.s, .slice hx.A hx.la hx.lc, .slice hx.F hx.lf hx.fc] 25))
    have hpv : putV a [] x = x := by cases a; rfl
    rw [hpv]
    clear H HX hA hR hc hp hcn hgo hSb hpv
    unfold Hd.val at *
    go_enter Try.func112, Try.ntmps112
    go_wp2_with fail
    refine bodyPost_ret (v := .agg #[.int .i64 hx.k, .int .i64 hx.n, .string hx.s, .slice hx.A hx.la hx.lc, .slice hx.F hx.lf hx.fc]) (by simp [results, Try.results112, go_sem]; try rfl) rfl ?_
    exact ⟨hx, rfl, Lies.keep (fun q _ hq => HB3.out.cell hq) (fun b hb _ => .inl hb) _ _ HXX.out, HB3.out⟩
  | cons s p ih =>
    intro a h w A m c hSb H HX hA hR hm hc hp hcn hgo
    obtain ⟨ad, rfl, hbl, hat, hok⟩ := hA 0 s rfl
    have e0 : ad.add (0 * 3) = ad := by simp [Addr.add]
    rw [e0] at hat hbl
    have HSR := Lib.hid (hR s (by simp))
    have HTL := Lib.hid hA.tail
    have hm1 : m = p.length + 1 := by simpa using hm
    have HPL := Lib.hid hm1
    have HSb := Lib.hid hSb
    have hm0i : (1 : Int) ≤ (m : Int) := by omega
    have hm0j : (0 : Int) < (m : Int) := by omega
    have hm0k : 0 < m := by omega
    have hm00 : ((m : Int) == 0) = false := by simp; omega
    obtain ⟨k, n, t, l, ks, f⟩ := a
    obtain ⟨bb, hbb⟩ := Option.isSome_iff_exists.1 hgo
    obtain ⟨i, y, hsi, hyL, hyF, hgy⟩ := goV_cons hbb
    have HGY : Hid ((goV y p).isSome = true) := Lib.hid (by rw [hgy]; rfl)
    have IH := Lib.hid (fun (y : Va) (u : Hd) (W : World) (A' : Option Addr) (m' c' : Nat) (h0 : ∀ b, S b → b < W.heap.size) (h1 : Lies W S y u) (h2 : Lies W S x hx) (h3 : PathAt W A' p) (h4 : m' = p.length) (h5 : m' ≤ c') (h6 : y.cnt ≤ 1000) (h7 : (goV y p).isSome = true) => ih y u W A' m' c' h0 h1 h2 h3 (fun t ht => hR t (by simp [ht])) h4 h5 (by omega) h6 h7)
    have HH := Lib.hid H
    have HXX := Lib.hid HX
    simp only [Lies] at H
    obtain ⟨⟨e1, e2, e3, e4, e5, e6⟩, -, -⟩ := H
    obtain ⟨hk, hnn, hss, HA, la, lc, F, lf, fc⟩ := h
    simp only at e1 e4 e5
    subst e1 e4
    have hlf : lf = f.length := e5
    subst hlf
    have HE6 := Lib.hid e6
    have HCN := Lib.hid hcn
    have hll : l.length ≤ 1000 := by have := len_le_cntL l; simp only [Va.cnt] at hcn; omega
    have hfl : f.length ≤ 1000 := by have := len_le_cntL f; simp only [Va.cnt] at hcn; omega
    have HLT := Lib.hid (subI_lt e6 HSR.out hsi)
    have HSI := Lib.hid hsi
    unfold Hd.val at *
    simp only
    -- the world behind the three blocks
    obtain ⟨wd, hwd⟩ : ∃ wd, wd = ((w.alloc (Obj.cells #[.int .i64 hk, .int .i64 hnn, .string hss, .slice HA l.length lc, .slice F f.length fc] 25)).alloc (Obj.cells #[.int .i64 hx.k, .int .i64 hx.n, .string hx.s, .slice hx.A hx.la hx.lc, .slice hx.F hx.lf hx.fc] 25)).alloc (Obj.cells #[.int .i64 0, .int .i64 0, .string { data := #[] }, .slice none 0 0, .slice none 0 0] 25) := ⟨_, rfl⟩
    have hb2 : Below w.heap.size w wd := by rw [hwd]; exact three_allocs _ _ _ _
    have hsz : wd.heap.size = w.heap.size + 3 := by rw [hwd]; simp
    have hbox : wd.rowIs w.heap.size 25 5 (hdAt ⟨hk, hnn, hss, HA, l.length, lc, F, f.length, fc⟩) := by
      rw [hwd]
      refine hdAt_row ?_
      rw [Below.heap_alloc _ _ _ (by simp; omega), Below.heap_alloc _ _ _ (by simp)]
      exact heap_alloc_new _ _
    have hbxx : wd.rowIs (w.heap.size + 1) 25 5 (hdAt hx) := by
      rw [hwd]
      refine hdAt_row ?_
      rw [Below.heap_alloc _ _ _ (by simp)]
      have h9 := heap_alloc_new (w.alloc (Obj.cells #[.int .i64 hk, .int .i64 hnn, .string hss, .slice HA l.length lc, .slice F f.length fc] 25)) (Obj.cells #[.int .i64 hx.k, .int .i64 hx.n, .string hx.s, .slice hx.A hx.la hx.lc, .slice hx.F hx.lf hx.fc] 25)
      rwa [World.size_alloc] at h9
    have hres : wd.rowIs (w.heap.size + 1 + 1) 25 5 zeroRes := by
      rw [hwd]
      refine hdAt_row (h := zeroHd) ?_
      have h9 := heap_alloc_new ((w.alloc (Obj.cells #[.int .i64 hk, .int .i64 hnn, .string hss, .slice HA l.length lc, .slice F f.length fc] 25)).alloc (Obj.cells #[.int .i64 hx.k, .int .i64 hx.n, .string hx.s, .slice hx.A hx.la hx.lc, .slice hx.F hx.lf hx.fc] 25)) (Obj.cells #[.int .i64 0, .int .i64 0, .string { data := #[] }, .slice none 0 0, .slice none 0 0] 25)
      rwa [World.size_alloc, World.size_alloc] at h9
    have HWD := Lib.hid hwd
    clear hA hR e2 e3 e5 e6 hok e0 hcn hm hm1 ih hgo hbb hwd hSb HX hgy
    go_enter Try.func112, Try.ntmps112
    go_wp2_with fail
    rw [← HWD.out]
    clear HWD
    obtain ⟨q0, q1, q2⟩ := hat.below hb2 hbl
    have hbld : ad.block < wd.heap.size := by omega
    have hNd : w.heap.size < wd.heap.size := by omega
    have b0 := hbox.cell (show 0 < 5 by decide)
    have b1 := hbox.cell (show 1 < 5 by decide)
    have b2 := hbox.cell (show 2 < 5 by decide)
    have b3 := hbox.cell (show 3 < 5 by decide)
    have b4 := hbox.cell (show 4 < 5 by decide)
    simp only [hdAt, Hd.cells, List.getD_cons_succ, List.getD_cons_zero] at b0 b1 b2 b3 b4
    have Q0 : ∀ x : BlwBy wd, x.now.cell? ad = some (.string s.k) := fun x => x.cellA hbld q0
    have Q1 : ∀ x : BlwBy wd, x.now.cell? ⟨ad.block, ad.off + 1, none⟩ = some (.int .i64 s.a) := fun x => x.cellA (a := ⟨ad.block, ad.off + 1, none⟩) hbld q1
    have Q2 : ∀ x : BlwBy wd, x.now.cell? ⟨ad.block, ad.off + 2, none⟩ = some (.bool s.i) := fun x => x.cellA (a := ⟨ad.block, ad.off + 2, none⟩) hbld q2
    have B0 : ∀ x : BlwBy wd, x.now.cell? ⟨w.heap.size, 0, none⟩ = some (.int .i64 hk) := fun x => x.cell hNd b0
    have B1 : ∀ x : BlwBy wd, x.now.cell? ⟨w.heap.size, 1, none⟩ = some (.int .i64 hnn) := fun x => x.cell hNd b1
    have B2 : ∀ x : BlwBy wd, x.now.cell? ⟨w.heap.size, 2, none⟩ = some (.string hss) := fun x => x.cell hNd b2
    have B3 : ∀ x : BlwBy wd, x.now.cell? ⟨w.heap.size, 3, none⟩ = some (.slice HA l.length lc) := fun x => x.cell hNd b3
    have B4 : ∀ x : BlwBy wd, x.now.cell? ⟨w.heap.size, 4, none⟩ = some (.slice F f.length fc) := fun x => x.cell hNd b4
    have HHd := Lib.hid (HH.out.below hb2 (Nat.le_refl _))
    have KM : Hid (∀ x : BlwBy wd, Calls Try.prog 124 #[.agg #[.int .i64 hk, .int .i64 hnn, .string hss, .slice HA l.length lc, .slice F f.length fc], .agg #[.string s.k, .int .i64 s.a, .bool s.i]] x.now fun e w'' => e = .returned (.int .i64 (mI (subI (.mk hk n t l ks f) s))) ∧ ∃ q : BlwBy wd, w'' = q.now) := Lib.hid (fun x => Calls.below_of (member_any (.mk hk n t l ks f) S ⟨hk, hnn, hss, HA, l.length, lc, F, f.length, fc⟩ x.now s (HHd.out.below x.bel (Nat.le_refl _)) HSR.out HCN.out))
    have HB2 := Lib.hid hb2
    have HRES := Lib.hid hres
    have HBOX := Lib.hid hbox
    have HBXX := Lib.hid hbxx
    clear hb2 hres hbox hbxx b0 b1 b2 b3 b4
    refine wp_quiet_below (by kernel_rfl) (by kernel_rfl) ?_
    repeat (quiet_step (first | (go_at_call 124; exact KM.out _)))
    refine wpQuiet_nil ?_
    intro w9 hw'
    have hb9 : Below wd.heap.size wd w9 := by obtain ⟨⟨wx, hbx⟩, hw''⟩ := hw'; rw [hw'']; exact hbx
    clear hw'
    have HB9 := Lib.hid (HB2.out.trans (hb9.mono (by omega)))
    have hs9 := hb9.size
    have HRES9 := Lib.hid (rowIs_below HRES.out hb9 (by omega))
    have HBOX9 := Lib.hid (rowIs_below HBOX.out hb9 (by omega))
    have HBXX9 := Lib.hid (rowIs_below HBXX.out hb9 (by omega))
    have r0 := (hb9.cell hbld).trans q0
    have r1 := (hb9.cell (p := ⟨ad.block, ad.off + 1, none⟩) hbld).trans q1
    have r2 := (hb9.cell (p := ⟨ad.block, ad.off + 2, none⟩) hbld).trans q2
    have hbl9 : ad.block < w9.heap.size := by omega
    clear Q0 Q1 Q2 B0 B1 B2 B3 B4 KM HRES HBOX HBXX q0 q1 q2 hb9 HHd HB2
    simp only [mI]
    have hci : (0 : Int) ≤ (i : Int) := by omega
    cases hst : s.i
    · have hyl := hyF hst
      obtain ⟨hil, -⟩ := HLT.out.2 hst
      obtain ⟨us, vs, hul, hvl, hrL, hLL, hrF, hFF⟩ := HH.out.rows
      have hzl : (ks.zip vs).length = f.length := by rw [List.length_zip, hvl, HE6.out]; omega
      obtain ⟨ad2, hA2, hSad, hcL⟩ := hrF (by rw [List.length_map]; omega)
      simp only at hA2
      subst hA2
      rw [hst] at r2
      have had2 : ad2.block < w.heap.size := HSb.out _ hSad
      have b3 := HBOX9.out.cell (show 4 < 5 by decide)
      have f3 := HBOX9.out.frozen 4
      simp only [hdAt, Hd.cells, List.getD_cons_succ, List.getD_cons_zero] at b3
      have KC := Lib.hid (cloneF (ks.zip vs) ad2 f.length fc w9 hzl.symm (by omega) hfl (fun j v hv jj c hc => by
        rw [HB9.out.cell (by rw [adb]; exact had2)]
        exact hcL j (pcells v) (by rw [List.getElem?_map, hv]; rfl) jj c hc))
      have HLL := Lib.hid hFF
      have HZL := Lib.hid hzl
      clear hzl
      have HYL := Lib.hid hyl
      clear hcL hLL hFF hrF hrL hyl hyL hyF
      go_wp2_with fail
      refine KC.out.mono ?_
      rintro e w10 ⟨g, cap, rfl, hown, hb10⟩
      have hs10 := hb10.size
      have hgl := own_lo hown (g := g) rfl
      have box10 := rowIs_below HBOX9.out hb10 (by omega)
      have c3 := box10.cell (show 4 < 5 by decide)
      have g3 := box10.frozen 4
      simp only [hdAt, Hd.cells, List.getD_cons_succ, List.getD_cons_zero] at c3
      clear b3 f3 KC
      go_upto_region 9 with fail
      have hgN : g ≠ w.heap.size := by omega
      have box11 : (w10.setCell ⟨w.heap.size, 4, none⟩ (.slice (some ⟨g, 0, none⟩) f.length cap)).rowIs w.heap.size 25 5 (hdAt ⟨hk, hnn, hss, HA, l.length, lc, some ⟨g, 0, none⟩, f.length, cap⟩) := by
        refine (box10.set 4 _).congr (fun j hj => ?_)
        match j, hj with
        | 0, _ => rfl
        | 1, _ => rfl
        | 2, _ => rfl
        | 3, _ => rfl
        | 4, _ => rfl
      have own11 : (w10.setCell ⟨w.heap.size, 4, none⟩ (.slice (some ⟨g, 0, none⟩) f.length cap)).ownsRow w9.heap.size 36 6 (.slice (some ⟨g, 0, none⟩) f.length cap) f.length ((ks.zip vs).flatMap pcells) := own_block hown (fun b hb => Below.heap_setCell _ _ _ _ (by simp [Value.ownBlock] at hb; show b ≠ w.heap.size; omega))
      have blk11 : ∀ b, b < w9.heap.size → b ≠ w.heap.size → (w10.setCell ⟨w.heap.size, 4, none⟩ (.slice (some ⟨g, 0, none⟩) f.length cap)).heap[b]? = w9.heap[b]? := fun b h1 h2 => (Below.heap_setCell _ _ _ _ h2).trans (hb10.block b h1)
      have bel11 : Below w.heap.size w (w10.setCell ⟨w.heap.size, 4, none⟩ (.slice (some ⟨g, 0, none⟩) f.length cap)) := (HB9.out.trans (hb10.mono (by omega))).setCell (Nat.le_refl _) _
      have sz11 : (w10.setCell ⟨w.heap.size, 4, none⟩ (.slice (some ⟨g, 0, none⟩) f.length cap)).heap.size = w10.heap.size := by simp
      generalize w10.setCell ⟨w.heap.size, 4, none⟩ (.slice (some ⟨g, 0, none⟩) f.length cap) = w11 at box11 own11 blk11 bel11 sz11 ⊢
      have HBOX := Lib.hid box11
      have HOWN := Lib.hid own11
      have HBLK := Lib.hid blk11
      have HBEL := Lib.hid bel11
      have HRES := Lib.hid (show w11.rowIs (w.heap.size + 1 + 1) 25 5 zeroRes from HRES9.out.of_block (blk11 _ (by omega) (by omega)))
      have HBXX := Lib.hid (show w11.rowIs (w.heap.size + 1) 25 5 (hdAt hx) from HBXX9.out.of_block (blk11 _ (by omega) (by omega)))
      clear box11 own11 blk11 bel11 hown hb10 box10 c3 g3 HRES9 HBXX9 HBOX9
      obtain ⟨u, hu, hLu⟩ := LiesL_at HLL.out HYL.out
      have hrow11 := row_of_own (S := fun _ => True) pcells (ks.zip vs) pcells_len HOWN.out (fun _ _ => trivial) (.inr (by decide))
      obtain ⟨adx, ex, _, hcx⟩ := hrow11 (by rw [List.length_map]; have := HZL.out; omega)
      obtain rfl : adx = ⟨g, 0, none⟩ := by injection ex with ex; exact ex.symm
      obtain ⟨ky, hky⟩ : ∃ ky, ks[i]? = some ky := ⟨ks[i]'(by have := HE6.out; omega), List.getElem?_eq_getElem (by have := HE6.out; omega)⟩
      have hce : ∀ j v, (pcells (ky, u))[j]? = some v → w11.cell? ⟨g, i * 6 + j, none⟩ = some v := fun j v hv => by
        have := hcx i (pcells (ky, u)) (by rw [List.getElem?_map, show (ks.zip vs)[i]? = some (ky, u) from List.getElem?_zip_eq_some.2 ⟨hky, hu⟩]; rfl) j v hv
        rwa [add0] at this
      have k0 := hce 1 _ rfl
      have k1 := hce 2 _ rfl
      have k2 := hce 3 _ rfl
      have k3 := hce 4 _ rfl
      have k4 := hce 5 _ rfl
      have b3 := HBOX.out.cell (show 4 < 5 by decide)
      have x0 := HBXX.out.cell (show 0 < 5 by decide)
      have x1 := HBXX.out.cell (show 1 < 5 by decide)
      have x2 := HBXX.out.cell (show 2 < 5 by decide)
      have x3 := HBXX.out.cell (show 3 < 5 by decide)
      have x4 := HBXX.out.cell (show 4 < 5 by decide)
      simp only [hdAt, Hd.cells, List.getD_cons_succ, List.getD_cons_zero] at b3 x0 x1 x2 x3 x4
      have HU := Lib.hid hu
      have HLu := Lib.hid hLu
      clear hcx hrow11 ex hu hLu
      have hcjl : (i : Int) < (f.length : Int) := by omega
      have HK := Lib.hid hce
      clear hce
      have hgl11 : g < w11.heap.size := by omega
      have hfr : ∀ o, w11.frozen? ⟨g, o, none⟩ = false := fun o => by
        rcases HOWN.out.2 with ⟨e, _⟩ | ⟨g2, cap2, cur, hv, _, hh, _⟩
        · cases e
        · injection hv with e1
          injection e1 with e1
          injection e1 with e1
          subst e1
          simp [World.frozen?, hh]
      have HFR := Lib.hid hfr
      clear hfr
      have HS0 : Hid (S6 w.heap.size 4 (.slice (some ⟨g, 0, none⟩) f.length cap) (w.heap.size + 1) hx w11.drew) := Lib.hid ⟨b3, x0, x1, x2, x3, x4⟩
      have HS1 := Lib.hid (show ∀ w5, Below w11.drew.heap.size w11.drew w5 → S6 w.heap.size 4 (.slice (some ⟨g, 0, none⟩) f.length cap) (w.heap.size + 1) hx w5 from fun w5 hb => S6.blk HS0.out (hb.block _ (show w.heap.size < w11.heap.size by omega)) (hb.block _ (show w.heap.size + 1 < w11.heap.size by omega)))
      have HS2 := Lib.hid (show ∀ w5 (v : Hd), Below w11.drew.heap.size w11.drew w5 → S6 w.heap.size 4 (.slice (some ⟨g, 0, none⟩) f.length cap) (w.heap.size + 1) hx (put5 w5 g (i * 6) v) from fun w5 v hb => S6.blk (HS1.out w5 hb) (put5_blk (by omega)) (put5_blk (by omega)))
      have HRR := Lib.hid (show ∀ w5, Below w11.drew.heap.size w11.drew w5 → w5.rowIs (w.heap.size + 1 + 1) 25 5 zeroRes ∧ w5.rowIs w.heap.size 25 5 (hdAt ⟨hk, hnn, hss, HA, l.length, lc, some ⟨g, 0, none⟩, f.length, cap⟩) from fun w5 hb => ⟨rowIs_below HRES.out.drew hb (show w.heap.size + 1 + 1 < w11.heap.size by omega), rowIs_below HBOX.out.drew hb (show w.heap.size < w11.heap.size by omega)⟩)
      have HKK := Lib.hid (show ∀ w5 o, Below w11.drew.heap.size w11.drew w5 → w5.cell? ⟨g, o, none⟩ = w11.cell? ⟨g, o, none⟩ ∧ w5.frozen? ⟨g, o, none⟩ = false from fun w5 o hb => ⟨hb.cell (p := ⟨g, o, none⟩) hgl11, (hb.frozen (p := ⟨g, o, none⟩) hgl11).trans (HFR.out o)⟩)
      have HBD : Hid (Below w.heap.size w w11.drew) := Lib.hid (HBEL.out.trans ((Below.refl _ _).drew))
      have HXC := Lib.hid (Nat.le_trans (cnt_sub (k := hk) (n := n) (t := t) (l := l) (ks := ks) (f := f) (.inr (List.mem_of_getElem? HYL.out))) HCN.out)
      have hld : ldEF = Op.load 25 (Operand.tmp 50) := rfl
      by_cases hc1 : c = 1
      · subst hc1
        obtain rfl : m = 1 := by omega
        have HCL := Lib.hid (IH.out y u w11.drew (some ad) 0 0 (fun b hb => by have := HSb.out b hb; show b < w11.heap.size; omega) (HLu.out.below HBD.out (Nat.le_refl _)) (HXX.out.below HBD.out (Nat.le_refl _)) (by have : p = [] := List.length_eq_zero_iff.1 (by have := HPL.out; omega); rw [this]; exact PathAt.nil _ _) (by have := HPL.out; omega) (Nat.le_refl _) HXC.out HGY.out)
        go_wp2_with fail
        rw [show Op.load 25 (Operand.tmp 50) = ldEF from rfl]
        go_region_held3 (fun w' => w'.cell? ⟨w.heap.size, 4, none⟩ = some (.slice (some ⟨g, 0, none⟩) f.length cap) ∧ w'.cell? ⟨w.heap.size + 1, 0, none⟩ = some (.int .i64 hx.k) ∧ w'.cell? ⟨w.heap.size + 1, 1, none⟩ = some (.int .i64 hx.n) ∧ w'.cell? ⟨w.heap.size + 1, 2, none⟩ = some (.string hx.s) ∧ w'.cell? ⟨w.heap.size + 1, 3, none⟩ = some (.slice hx.A hx.la hx.lc) ∧ w'.cell? ⟨w.heap.size + 1, 4, none⟩ = some (.slice hx.F hx.lf hx.fc))
          (first
            | (with_reducible exact HS2.out _ _ hb5)
            | (have h7 := HS1.out _ hb5; with_reducible exact h7)
            | (have h7 := HS0.out; with_reducible exact h7)
            | fail)
          (first
            | (go_at_call 112; refine HCL.out.mono ?_; rintro e w5 ⟨h', rfl, hl5, hb5⟩; have y0 := (HKK.out _ (i * 6 + 1) hb5).1.trans k0; have yf0 := (HKK.out _ (i * 6 + 1) hb5).2; have y1 := (HKK.out _ (i * 6 + 2) hb5).1.trans k1; have yf1 := (HKK.out _ (i * 6 + 2) hb5).2; have y2 := (HKK.out _ (i * 6 + 3) hb5).1.trans k2; have yf2 := (HKK.out _ (i * 6 + 3) hb5).2; have y3 := (HKK.out _ (i * 6 + 4) hb5).1.trans k3; have yf3 := (HKK.out _ (i * 6 + 4) hb5).2; have y4 := (HKK.out _ (i * 6 + 5) hb5).1.trans k4; have yf4 := (HKK.out _ (i * 6 + 5) hb5).2; have z0 := (HRR.out _ hb5).1.cell (show 0 < 5 by decide); have g0 := (HRR.out _ hb5).1.frozen 0; have c0 := (HRR.out _ hb5).2.cell (show 0 < 5 by decide); have z1 := (HRR.out _ hb5).1.cell (show 1 < 5 by decide); have g1 := (HRR.out _ hb5).1.frozen 1; have c1 := (HRR.out _ hb5).2.cell (show 1 < 5 by decide); have z2 := (HRR.out _ hb5).1.cell (show 2 < 5 by decide); have g2 := (HRR.out _ hb5).1.frozen 2; have c2 := (HRR.out _ hb5).2.cell (show 2 < 5 by decide); have z3 := (HRR.out _ hb5).1.cell (show 3 < 5 by decide); have g3 := (HRR.out _ hb5).1.frozen 3; have c3 := (HRR.out _ hb5).2.cell (show 3 < 5 by decide); have z4 := (HRR.out _ hb5).1.cell (show 4 < 5 by decide); have g4 := (HRR.out _ hb5).1.frozen 4; have c4 := (HRR.out _ hb5).2.cell (show 4 < 5 by decide); have HL5 := Lib.hid hl5; have HB5 := Lib.hid hb5; clear hl5; simp only [hdAt, Hd.cells, List.getD_cons_succ, List.getD_cons_zero] at z0 z1 z2 z3 z4 c0 c1 c2 c3 c4)
            | fail)
        all_goals go_wp2_with fail
        all_goals refine bodyPost_ret (v := .agg #[.int .i64 hk, .int .i64 hnn, .string hss, .slice HA l.length lc, .slice (some ⟨g, 0, none⟩) f.length cap]) (by simp [results, Try.results112, go_sem, z0, z1, z2, z3, z4]; try rfl) rfl ?_
        all_goals exact rep_F HH.out HLL.out HSb.out HBD.out (by omega) (by omega) (by omega) (show w.heap.size + 1 + 1 < w11.heap.size by omega) hgl11 HB5.out (own_base HOWN.out (by omega)) hil HL5.out (putV_F HSI.out hst HYL.out)
      · have HCL := Lib.hid (IH.out y u w11.drew (some ⟨ad.block, ad.off + 3, none⟩) (m - 1) (c - 1) (fun b hb => by have := HSb.out b hb; show b < w11.heap.size; omega) (HLu.out.below HBD.out (Nat.le_refl _)) (HXX.out.below HBD.out (Nat.le_refl _)) (by have h := HTL.out.below HBD.out (Nat.le_refl _); rwa [add_pos _ (by decide)] at h) (by have := HPL.out; omega) (by omega) HXC.out HGY.out)
        go_wp2_with fail
        rw [show Op.load 25 (Operand.tmp 50) = ldEF from rfl]
        go_region_held3 (fun w' => w'.cell? ⟨w.heap.size, 4, none⟩ = some (.slice (some ⟨g, 0, none⟩) f.length cap) ∧ w'.cell? ⟨w.heap.size + 1, 0, none⟩ = some (.int .i64 hx.k) ∧ w'.cell? ⟨w.heap.size + 1, 1, none⟩ = some (.int .i64 hx.n) ∧ w'.cell? ⟨w.heap.size + 1, 2, none⟩ = some (.string hx.s) ∧ w'.cell? ⟨w.heap.size + 1, 3, none⟩ = some (.slice hx.A hx.la hx.lc) ∧ w'.cell? ⟨w.heap.size + 1, 4, none⟩ = some (.slice hx.F hx.lf hx.fc))
          (first
            | (with_reducible exact HS2.out _ _ hb5)
            | (have h7 := HS1.out _ hb5; with_reducible exact h7)
            | (have h7 := HS0.out; with_reducible exact h7)
            | fail)
          (first
            | (go_at_call 112; refine HCL.out.mono ?_; rintro e w5 ⟨h', rfl, hl5, hb5⟩; have y0 := (HKK.out _ (i * 6 + 1) hb5).1.trans k0; have yf0 := (HKK.out _ (i * 6 + 1) hb5).2; have y1 := (HKK.out _ (i * 6 + 2) hb5).1.trans k1; have yf1 := (HKK.out _ (i * 6 + 2) hb5).2; have y2 := (HKK.out _ (i * 6 + 3) hb5).1.trans k2; have yf2 := (HKK.out _ (i * 6 + 3) hb5).2; have y3 := (HKK.out _ (i * 6 + 4) hb5).1.trans k3; have yf3 := (HKK.out _ (i * 6 + 4) hb5).2; have y4 := (HKK.out _ (i * 6 + 5) hb5).1.trans k4; have yf4 := (HKK.out _ (i * 6 + 5) hb5).2; have z0 := (HRR.out _ hb5).1.cell (show 0 < 5 by decide); have g0 := (HRR.out _ hb5).1.frozen 0; have c0 := (HRR.out _ hb5).2.cell (show 0 < 5 by decide); have z1 := (HRR.out _ hb5).1.cell (show 1 < 5 by decide); have g1 := (HRR.out _ hb5).1.frozen 1; have c1 := (HRR.out _ hb5).2.cell (show 1 < 5 by decide); have z2 := (HRR.out _ hb5).1.cell (show 2 < 5 by decide); have g2 := (HRR.out _ hb5).1.frozen 2; have c2 := (HRR.out _ hb5).2.cell (show 2 < 5 by decide); have z3 := (HRR.out _ hb5).1.cell (show 3 < 5 by decide); have g3 := (HRR.out _ hb5).1.frozen 3; have c3 := (HRR.out _ hb5).2.cell (show 3 < 5 by decide); have z4 := (HRR.out _ hb5).1.cell (show 4 < 5 by decide); have g4 := (HRR.out _ hb5).1.frozen 4; have c4 := (HRR.out _ hb5).2.cell (show 4 < 5 by decide); have HL5 := Lib.hid hl5; have HB5 := Lib.hid hb5; clear hl5; simp only [hdAt, Hd.cells, List.getD_cons_succ, List.getD_cons_zero] at z0 z1 z2 z3 z4 c0 c1 c2 c3 c4)
            | fail)
        all_goals go_wp2_with fail
        all_goals refine bodyPost_ret (v := .agg #[.int .i64 hk, .int .i64 hnn, .string hss, .slice HA l.length lc, .slice (some ⟨g, 0, none⟩) f.length cap]) (by simp [results, Try.results112, go_sem, z0, z1, z2, z3, z4]; try rfl) rfl ?_
        all_goals exact rep_F HH.out HLL.out HSb.out HBD.out (by omega) (by omega) (by omega) (show w.heap.size + 1 + 1 < w11.heap.size by omega) hgl11 HB5.out (own_base HOWN.out (by omega)) hil HL5.out (putV_F HSI.out hst HYL.out)
    · have hyl := hyL hst
      obtain ⟨hil, -⟩ := HLT.out.1 hst
      obtain ⟨us, vs, hul, hvl, hrL, hLL, hrF, hFF⟩ := HH.out.rows
      obtain ⟨ad2, hA2, hSad, hcL⟩ := hrL (by simp; omega)
      simp only at hA2
      subst hA2
      rw [hst] at r2
      have had2 : ad2.block < w.heap.size := HSb.out _ hSad
      have b3 := HBOX9.out.cell (show 3 < 5 by decide)
      have f3 := HBOX9.out.frozen 3
      simp only [hdAt, Hd.cells, List.getD_cons_succ, List.getD_cons_zero] at b3
      have KC := Lib.hid (cloneV us ad2 l.length lc w9 hul.symm (by omega) hll (fun j v hv jj c hc => by
        rw [HB9.out.cell (by rw [adb]; exact had2)]
        exact hcL j v.cells (by simp [hv]) jj c hc))
      have HLL := Lib.hid hLL
      have HYL := Lib.hid hyl
      clear hcL hLL hFF hrF hrL hyl hyL hyF
      go_wp2_with fail
      refine KC.out.mono ?_
      rintro e w10 ⟨g, cap, rfl, hown, hb10⟩
      have hs10 := hb10.size
      have hgl := own_lo hown (g := g) rfl
      have box10 := rowIs_below HBOX9.out hb10 (by omega)
      have c3 := box10.cell (show 3 < 5 by decide)
      have g3 := box10.frozen 3
      simp only [hdAt, Hd.cells, List.getD_cons_succ, List.getD_cons_zero] at c3
      clear b3 f3 KC
      go_upto_region 6 with fail
      have hgN : g ≠ w.heap.size := by omega
      have box11 : (w10.setCell ⟨w.heap.size, 3, none⟩ (.slice (some ⟨g, 0, none⟩) l.length cap)).rowIs w.heap.size 25 5 (hdAt ⟨hk, hnn, hss, some ⟨g, 0, none⟩, l.length, cap, F, f.length, fc⟩) := by
        refine (box10.set 3 _).congr (fun j hj => ?_)
        match j, hj with
        | 0, _ => rfl
        | 1, _ => rfl
        | 2, _ => rfl
        | 3, _ => rfl
        | 4, _ => rfl
      have own11 : (w10.setCell ⟨w.heap.size, 3, none⟩ (.slice (some ⟨g, 0, none⟩) l.length cap)).ownsRow w9.heap.size 25 5 (.slice (some ⟨g, 0, none⟩) l.length cap) l.length (us.flatMap Hd.cells) := own_block hown (fun b hb => Below.heap_setCell _ _ _ _ (by simp [Value.ownBlock] at hb; show b ≠ w.heap.size; omega))
      have blk11 : ∀ b, b < w9.heap.size → b ≠ w.heap.size → (w10.setCell ⟨w.heap.size, 3, none⟩ (.slice (some ⟨g, 0, none⟩) l.length cap)).heap[b]? = w9.heap[b]? := fun b h1 h2 => (Below.heap_setCell _ _ _ _ h2).trans (hb10.block b h1)
      have bel11 : Below w.heap.size w (w10.setCell ⟨w.heap.size, 3, none⟩ (.slice (some ⟨g, 0, none⟩) l.length cap)) := (HB9.out.trans (hb10.mono (by omega))).setCell (Nat.le_refl _) _
      have sz11 : (w10.setCell ⟨w.heap.size, 3, none⟩ (.slice (some ⟨g, 0, none⟩) l.length cap)).heap.size = w10.heap.size := by simp
      generalize w10.setCell ⟨w.heap.size, 3, none⟩ (.slice (some ⟨g, 0, none⟩) l.length cap) = w11 at box11 own11 blk11 bel11 sz11 ⊢
      have HBOX := Lib.hid box11
      have HOWN := Lib.hid own11
      have HBLK := Lib.hid blk11
      have HBEL := Lib.hid bel11
      have HRES := Lib.hid (show w11.rowIs (w.heap.size + 1 + 1) 25 5 zeroRes from HRES9.out.of_block (blk11 _ (by omega) (by omega)))
      have HBXX := Lib.hid (show w11.rowIs (w.heap.size + 1) 25 5 (hdAt hx) from HBXX9.out.of_block (blk11 _ (by omega) (by omega)))
      clear box11 own11 blk11 bel11 hown hb10 box10 c3 g3 HRES9 HBXX9 HBOX9
      obtain ⟨u, hu, hLu⟩ := LiesL_at HLL.out HYL.out
      have hrow11 := row_of_own (S := fun _ => True) Hd.cells us cells_len HOWN.out (fun _ _ => trivial) (.inr (by decide))
      obtain ⟨adx, ex, _, hcx⟩ := hrow11 (by simp; omega)
      obtain rfl : adx = ⟨g, 0, none⟩ := by injection ex with ex; exact ex.symm
      have hce : ∀ j v, u.cells[j]? = some v → w11.cell? ⟨g, i * 5 + j, none⟩ = some v := fun j v hv => by
        have := hcx i u.cells (by simp [hu]) j v hv
        rwa [add0] at this
      have k0 := hce 0 _ rfl
      have k1 := hce 1 _ rfl
      have k2 := hce 2 _ rfl
      have k3 := hce 3 _ rfl
      have k4 := hce 4 _ rfl
      rw [Nat.add_zero] at k0
      have b3 := HBOX.out.cell (show 3 < 5 by decide)
      have x0 := HBXX.out.cell (show 0 < 5 by decide)
      have x1 := HBXX.out.cell (show 1 < 5 by decide)
      have x2 := HBXX.out.cell (show 2 < 5 by decide)
      have x3 := HBXX.out.cell (show 3 < 5 by decide)
      have x4 := HBXX.out.cell (show 4 < 5 by decide)
      simp only [hdAt, Hd.cells, List.getD_cons_succ, List.getD_cons_zero] at b3 x0 x1 x2 x3 x4
      have HU := Lib.hid hu
      have HLu := Lib.hid hLu
      clear hcx hrow11 ex hu hLu
      have hcjl : (i : Int) < (l.length : Int) := by omega
      have HK := Lib.hid hce
      clear hce
      have hgl11 : g < w11.heap.size := by omega
      have hfr : ∀ o, w11.frozen? ⟨g, o, none⟩ = false := fun o => by
        rcases HOWN.out.2 with ⟨e, _⟩ | ⟨g2, cap2, cur, hv, _, hh, _⟩
        · cases e
        · injection hv with e1
          injection e1 with e1
          injection e1 with e1
          subst e1
          simp [World.frozen?, hh]
      have HFR := Lib.hid hfr
      clear hfr
      have HS0 : Hid (S6 w.heap.size 3 (.slice (some ⟨g, 0, none⟩) l.length cap) (w.heap.size + 1) hx w11.drew) := Lib.hid ⟨b3, x0, x1, x2, x3, x4⟩
      have HS1 := Lib.hid (show ∀ w5, Below w11.drew.heap.size w11.drew w5 → S6 w.heap.size 3 (.slice (some ⟨g, 0, none⟩) l.length cap) (w.heap.size + 1) hx w5 from fun w5 hb => S6.blk HS0.out (hb.block _ (show w.heap.size < w11.heap.size by omega)) (hb.block _ (show w.heap.size + 1 < w11.heap.size by omega)))
      have HS2 := Lib.hid (show ∀ w5 (v : Hd), Below w11.drew.heap.size w11.drew w5 → S6 w.heap.size 3 (.slice (some ⟨g, 0, none⟩) l.length cap) (w.heap.size + 1) hx (putL w5 g (i * 5) v) from fun w5 v hb => S6.blk (HS1.out w5 hb) (putL_blk (by omega)) (putL_blk (by omega)))
      have HRR := Lib.hid (show ∀ w5, Below w11.drew.heap.size w11.drew w5 → w5.rowIs (w.heap.size + 1 + 1) 25 5 zeroRes ∧ w5.rowIs w.heap.size 25 5 (hdAt ⟨hk, hnn, hss, some ⟨g, 0, none⟩, l.length, cap, F, f.length, fc⟩) from fun w5 hb => ⟨rowIs_below HRES.out.drew hb (show w.heap.size + 1 + 1 < w11.heap.size by omega), rowIs_below HBOX.out.drew hb (show w.heap.size < w11.heap.size by omega)⟩)
      have HKK := Lib.hid (show ∀ w5 o, Below w11.drew.heap.size w11.drew w5 → w5.cell? ⟨g, o, none⟩ = w11.cell? ⟨g, o, none⟩ ∧ w5.frozen? ⟨g, o, none⟩ = false from fun w5 o hb => ⟨hb.cell (p := ⟨g, o, none⟩) hgl11, (hb.frozen (p := ⟨g, o, none⟩) hgl11).trans (HFR.out o)⟩)
      have HBD : Hid (Below w.heap.size w w11.drew) := Lib.hid (HBEL.out.trans ((Below.refl _ _).drew))
      have HXC := Lib.hid (Nat.le_trans (cnt_sub (k := hk) (n := n) (t := t) (l := l) (ks := ks) (f := f) (.inl (List.mem_of_getElem? HYL.out))) HCN.out)
      have hld : ldE = Op.load 25 (Operand.tmp 31) := rfl
      by_cases hc1 : c = 1
      · subst hc1
        obtain rfl : m = 1 := by omega
        have HCL := Lib.hid (IH.out y u w11.drew (some ad) 0 0 (fun b hb => by have := HSb.out b hb; show b < w11.heap.size; omega) (HLu.out.below HBD.out (Nat.le_refl _)) (HXX.out.below HBD.out (Nat.le_refl _)) (by have : p = [] := List.length_eq_zero_iff.1 (by have := HPL.out; omega); rw [this]; exact PathAt.nil _ _) (by have := HPL.out; omega) (Nat.le_refl _) HXC.out HGY.out)
        go_wp2_with fail
        rw [show Op.load 25 (Operand.tmp 31) = ldE from rfl]
        go_region_held3 (fun w' => w'.cell? ⟨w.heap.size, 3, none⟩ = some (.slice (some ⟨g, 0, none⟩) l.length cap) ∧ w'.cell? ⟨w.heap.size + 1, 0, none⟩ = some (.int .i64 hx.k) ∧ w'.cell? ⟨w.heap.size + 1, 1, none⟩ = some (.int .i64 hx.n) ∧ w'.cell? ⟨w.heap.size + 1, 2, none⟩ = some (.string hx.s) ∧ w'.cell? ⟨w.heap.size + 1, 3, none⟩ = some (.slice hx.A hx.la hx.lc) ∧ w'.cell? ⟨w.heap.size + 1, 4, none⟩ = some (.slice hx.F hx.lf hx.fc))
          (first
            | (with_reducible exact HS2.out _ _ hb5)
            | (have h7 := HS1.out _ hb5; with_reducible exact h7)
            | (have h7 := HS0.out; with_reducible exact h7)
            | fail)
          (first
            | (go_at_call 112; refine HCL.out.mono ?_; rintro e w5 ⟨h', rfl, hl5, hb5⟩; have y0 := (HKK.out _ (i * 5) hb5).1.trans k0; have yf0 := (HKK.out _ (i * 5) hb5).2; have y1 := (HKK.out _ (i * 5 + 1) hb5).1.trans k1; have yf1 := (HKK.out _ (i * 5 + 1) hb5).2; have y2 := (HKK.out _ (i * 5 + 2) hb5).1.trans k2; have yf2 := (HKK.out _ (i * 5 + 2) hb5).2; have y3 := (HKK.out _ (i * 5 + 3) hb5).1.trans k3; have yf3 := (HKK.out _ (i * 5 + 3) hb5).2; have y4 := (HKK.out _ (i * 5 + 4) hb5).1.trans k4; have yf4 := (HKK.out _ (i * 5 + 4) hb5).2; have z0 := (HRR.out _ hb5).1.cell (show 0 < 5 by decide); have g0 := (HRR.out _ hb5).1.frozen 0; have c0 := (HRR.out _ hb5).2.cell (show 0 < 5 by decide); have z1 := (HRR.out _ hb5).1.cell (show 1 < 5 by decide); have g1 := (HRR.out _ hb5).1.frozen 1; have c1 := (HRR.out _ hb5).2.cell (show 1 < 5 by decide); have z2 := (HRR.out _ hb5).1.cell (show 2 < 5 by decide); have g2 := (HRR.out _ hb5).1.frozen 2; have c2 := (HRR.out _ hb5).2.cell (show 2 < 5 by decide); have z3 := (HRR.out _ hb5).1.cell (show 3 < 5 by decide); have g3 := (HRR.out _ hb5).1.frozen 3; have c3 := (HRR.out _ hb5).2.cell (show 3 < 5 by decide); have z4 := (HRR.out _ hb5).1.cell (show 4 < 5 by decide); have g4 := (HRR.out _ hb5).1.frozen 4; have c4 := (HRR.out _ hb5).2.cell (show 4 < 5 by decide); have HL5 := Lib.hid hl5; have HB5 := Lib.hid hb5; clear hl5; simp only [hdAt, Hd.cells, List.getD_cons_succ, List.getD_cons_zero] at z0 z1 z2 z3 z4 c0 c1 c2 c3 c4)
            | fail)
        all_goals go_wp2_with fail
        all_goals refine bodyPost_ret (v := .agg #[.int .i64 hk, .int .i64 hnn, .string hss, .slice (some ⟨g, 0, none⟩) l.length cap, .slice F f.length fc]) (by simp [results, Try.results112, go_sem, z0, z1, z2, z3, z4]; try rfl) rfl ?_
        all_goals exact rep_L HH.out HLL.out HSb.out HBD.out (by omega) (by omega) (by omega) (show w.heap.size + 1 + 1 < w11.heap.size by omega) hgl11 HB5.out (own_base HOWN.out (by omega)) hil HL5.out (putV_L HSI.out hst HYL.out)
      · have HCL := Lib.hid (IH.out y u w11.drew (some ⟨ad.block, ad.off + 3, none⟩) (m - 1) (c - 1) (fun b hb => by have := HSb.out b hb; show b < w11.heap.size; omega) (HLu.out.below HBD.out (Nat.le_refl _)) (HXX.out.below HBD.out (Nat.le_refl _)) (by have h := HTL.out.below HBD.out (Nat.le_refl _); rwa [add_pos _ (by decide)] at h) (by have := HPL.out; omega) (by omega) HXC.out HGY.out)
        go_wp2_with fail
        rw [show Op.load 25 (Operand.tmp 31) = ldE from rfl]
        go_region_held3 (fun w' => w'.cell? ⟨w.heap.size, 3, none⟩ = some (.slice (some ⟨g, 0, none⟩) l.length cap) ∧ w'.cell? ⟨w.heap.size + 1, 0, none⟩ = some (.int .i64 hx.k) ∧ w'.cell? ⟨w.heap.size + 1, 1, none⟩ = some (.int .i64 hx.n) ∧ w'.cell? ⟨w.heap.size + 1, 2, none⟩ = some (.string hx.s) ∧ w'.cell? ⟨w.heap.size + 1, 3, none⟩ = some (.slice hx.A hx.la hx.lc) ∧ w'.cell? ⟨w.heap.size + 1, 4, none⟩ = some (.slice hx.F hx.lf hx.fc))
          (first
            | (with_reducible exact HS2.out _ _ hb5)
            | (have h7 := HS1.out _ hb5; with_reducible exact h7)
            | (have h7 := HS0.out; with_reducible exact h7)
            | fail)
          (first
            | (go_at_call 112; refine HCL.out.mono ?_; rintro e w5 ⟨h', rfl, hl5, hb5⟩; have y0 := (HKK.out _ (i * 5) hb5).1.trans k0; have yf0 := (HKK.out _ (i * 5) hb5).2; have y1 := (HKK.out _ (i * 5 + 1) hb5).1.trans k1; have yf1 := (HKK.out _ (i * 5 + 1) hb5).2; have y2 := (HKK.out _ (i * 5 + 2) hb5).1.trans k2; have yf2 := (HKK.out _ (i * 5 + 2) hb5).2; have y3 := (HKK.out _ (i * 5 + 3) hb5).1.trans k3; have yf3 := (HKK.out _ (i * 5 + 3) hb5).2; have y4 := (HKK.out _ (i * 5 + 4) hb5).1.trans k4; have yf4 := (HKK.out _ (i * 5 + 4) hb5).2; have z0 := (HRR.out _ hb5).1.cell (show 0 < 5 by decide); have g0 := (HRR.out _ hb5).1.frozen 0; have c0 := (HRR.out _ hb5).2.cell (show 0 < 5 by decide); have z1 := (HRR.out _ hb5).1.cell (show 1 < 5 by decide); have g1 := (HRR.out _ hb5).1.frozen 1; have c1 := (HRR.out _ hb5).2.cell (show 1 < 5 by decide); have z2 := (HRR.out _ hb5).1.cell (show 2 < 5 by decide); have g2 := (HRR.out _ hb5).1.frozen 2; have c2 := (HRR.out _ hb5).2.cell (show 2 < 5 by decide); have z3 := (HRR.out _ hb5).1.cell (show 3 < 5 by decide); have g3 := (HRR.out _ hb5).1.frozen 3; have c3 := (HRR.out _ hb5).2.cell (show 3 < 5 by decide); have z4 := (HRR.out _ hb5).1.cell (show 4 < 5 by decide); have g4 := (HRR.out _ hb5).1.frozen 4; have c4 := (HRR.out _ hb5).2.cell (show 4 < 5 by decide); have HL5 := Lib.hid hl5; have HB5 := Lib.hid hb5; clear hl5; simp only [hdAt, Hd.cells, List.getD_cons_succ, List.getD_cons_zero] at z0 z1 z2 z3 z4 c0 c1 c2 c3 c4)
            | fail)
        all_goals go_wp2_with fail
        all_goals refine bodyPost_ret (v := .agg #[.int .i64 hk, .int .i64 hnn, .string hss, .slice (some ⟨g, 0, none⟩) l.length cap, .slice F f.length fc]) (by simp [results, Try.results112, go_sem, z0, z1, z2, z3, z4]; try rfl) rfl ?_
        all_goals exact rep_L HH.out HLL.out HSb.out HBD.out (by omega) (by omega) (by omega) (show w.heap.size + 1 + 1 < w11.heap.size by omega) hgl11 HB5.out (own_base HOWN.out (by omega)) hil HL5.out (putV_L HSI.out hst HYL.out)
end Go.Proofs.Ytmdlcalnncncjaa

/- The reference's Put. -/
set_option linter.unusedVariables false
set_option linter.unusedSimpArgs false
namespace Go.Proofs.Ytmdlcalnncncjaa
open Go.RowKit
/-- A row that is being made in the value of block O; its elements may be new. -/
structure LoopZ {α : Type} (fn : α → List Value) (hd : α → Hd) (ty : TypeId) (size : Nat) (rw : Option Addr → Nat → Nat → Hd) (wd : World) (O : Nat) (S : Nat → Prop) (l : List Va) (i : Nat) (wr : World) (us : List α) (A' : Option Addr) (c' : Nat) : Prop where
  kp : Kp O wd wr
  row : wr.rowIs O 25 5 (hdAt (rw A' i c'))
  own : wr.ownsRow wd.heap.size ty size (.slice A' i c') i (us.flatMap fn)
  len : us.length = i
  lies : ∀ (j : Nat) y u, l[j]? = some y → us[j]? = some u → Lies wr (fun b => (S b ∨ wd.heap.size ≤ b) ∧ b < wr.heap.size ∧ (Value.slice A' i c').ownBlock ≠ some b) y (hd u)
theorem LoopZ.step {α : Type} {fn : α → List Value} {hd : α → Hd} {ty : TypeId} {size : Nat} {rw : Option Addr → Nat → Nat → Hd} {wd wr wq w3 : World} {O i g cap c0 : Nat} {S : Nat → Prop} {l : List Va} {us : List α} {A' : Option Addr} {c' : Nat} {y : Va} {u : α}
    (H : LoopZ fn hd ty size rw wd O S l i wr us A' c') (hO : O < wd.heap.size) (hSO : ∀ b, S b → b < O)
    (hrw : ∀ W : World, W.rowIs O 25 5 (hdAt (rw A' i c')) → (W.setCell ⟨O, c0, none⟩ (.slice (some ⟨g, 0, none⟩) (i + 1) cap)).rowIs O 25 5 (hdAt (rw (some ⟨g, 0, none⟩) (i + 1) cap)))
    (hy : l[i]? = some y) (hbq : Below wr.heap.size wr wq) (hLu : Lies wq (fun b => (S b ∨ wd.heap.size ≤ b) ∧ b < wq.heap.size ∧ (Value.slice A' i c').ownBlock ≠ some b) y (hd u))
    (hown3 : w3.ownsRow wd.heap.size ty size (.slice (some ⟨g, 0, none⟩) (i + 1) cap) (i + 1) (us.flatMap fn ++ fn u)) (hgrow : wq.grownBy w3 (Value.slice A' i c').ownBlock)
    (hat : (Value.slice A' i c').ownBlock = some g ∨ g = wq.heap.size) :
    LoopZ fn hd ty size rw wd O S l (i + 1) (w3.setCell ⟨O, c0, none⟩ (.slice (some ⟨g, 0, none⟩) (i + 1) cap)) (us ++ [u]) (some ⟨g, 0, none⟩) cap := by
  have hkr := H.kp.size
  have hq := hbq.size
  have hg3 := hgrow.size
  have hrow : ∀ b, (Value.slice A' i c').ownBlock = some b → wd.heap.size ≤ b ∧ b < wr.heap.size := fun b hb => own_lo H.own hb
  have blq : ∀ b, b < wq.heap.size → (Value.slice A' i c').ownBlock ≠ some b → w3.heap[b]? = wq.heap[b]? := fun b h1 h2 => hgrow.block b h1 (fun e => h2 e.symm)
  have blk : ∀ b, b < wr.heap.size → (Value.slice A' i c').ownBlock ≠ some b → w3.heap[b]? = wr.heap[b]? := fun b h1 h2 => by
    rw [blq b (by omega) h2, hbq.block b h1]
  have hOn : (Value.slice A' i c').ownBlock ≠ some O := fun e => by have := hrow O e; omega
  have hgO : g ≠ O := by
    rcases hat with e | e
    · have := hrow g e; omega
    · omega
  have hgn : ∀ b, b < wq.heap.size → (Value.slice A' i c').ownBlock ≠ some b → g ≠ b := fun b h1 h2 e => by
    rcases hat with e2 | e2
    · exact h2 (by rw [e2, e])
    · omega
  have hbO : ∀ b, S b ∨ wd.heap.size ≤ b → b ≠ O := fun b hb => by
    rcases hb with hb | hb
    · have := hSO b hb; omega
    · omega
  refine ⟨?_, ?_, ?_, ?_, ?_⟩
  · refine Kp.setN ⟨?_, by omega, fun k h1 h2 => ?_⟩ _
    · exact (H.kp.bel.trans (hbq.mono (by omega))).grown hgrow (by omega) (fun k hk => by have := hrow k hk; omega)
    · rw [blk k (by omega) (fun e => by have := hrow k e; omega)]
      exact H.kp.block k h1 h2
  · exact hrw _ (rowIs_below' (B := 0) H.row (blk O (by omega) hOn))
  · rw [List.flatMap_append]
    refine own_block (v := .slice (some ⟨g, 0, none⟩) (i + 1) cap) (w := w3) ?_ fun b hb => Below.heap_setCell _ _ _ _ ?_
    · simpa using hown3
    · simp only [Value.ownBlock, Option.some.injEq] at hb
      show b ≠ O
      omega
  · simp [H.len]
  · intro j y' u' hy' hu'
    by_cases e : j < i
    · rw [List.getElem?_append_left (by rw [H.len]; exact e)] at hu'
      refine Lies.keep (fun p hp hl => World.cell?_of_block ((Below.heap_setCell _ _ _ _ (hbO _ hp.1)).trans (blk _ hp.2.1 hp.2.2))) (fun b hb hl => ⟨hb.1, ?_, ?_⟩) _ _ (H.lies j y' u' hy' hu')
      · have := hb.2.1; simp; omega
      · intro e2
        injection e2 with e2
        exact hgn b (by have := hb.2.1; omega) hb.2.2 e2
    · have hj : j < (us ++ [u]).length := (List.getElem?_eq_some_iff.1 hu').1
      simp [H.len] at hj
      obtain rfl : j = i := by omega
      rw [List.getElem?_append_right (by rw [H.len]; exact Nat.le_refl _), H.len] at hu'
      simp at hu'
      subst hu'
      rw [hy] at hy'
      cases hy'
      refine Lies.keep (fun p hp hl => World.cell?_of_block ((Below.heap_setCell _ _ _ _ (hbO _ hp.1)).trans (blq _ hp.2.1 hp.2.2))) (fun b hb hl => ⟨hb.1, ?_, ?_⟩) _ _ hLu
      · have := hb.2.1; simp; omega
      · intro e2
        injection e2 with e2
        exact hgn b (by have := hb.2.1; omega) hb.2.2 e2
theorem setc3 {k0 : Int} {O g i n cap c' : Nat} {A' : Option Addr} : ∀ W : World, W.rowIs O 25 5 (hdAt ⟨k0, 0, ByteArray.empty, A', i, c', none, 0, 0⟩) → (W.setCell ⟨O, 3, none⟩ (.slice (some ⟨g, 0, none⟩) n cap)).rowIs O 25 5 (hdAt ⟨k0, 0, ByteArray.empty, some ⟨g, 0, none⟩, n, cap, none, 0, 0⟩) := fun W H => by
  refine (H.set 3 _).congr (fun j hj => ?_)
  match j, hj with
  | 0, _ => rfl
  | 1, _ => rfl
  | 2, _ => rfl
  | 3, _ => rfl
  | 4, _ => rfl
theorem setc4 {k0 : Int} {O g i n cap c' : Nat} {A' : Option Addr} : ∀ W : World, W.rowIs O 25 5 (hdAt ⟨k0, 0, ByteArray.empty, none, 0, 0, A', i, c'⟩) → (W.setCell ⟨O, 4, none⟩ (.slice (some ⟨g, 0, none⟩) n cap)).rowIs O 25 5 (hdAt ⟨k0, 0, ByteArray.empty, none, 0, 0, some ⟨g, 0, none⟩, n, cap⟩) := fun W H => by
  refine (H.set 4 _).congr (fun j hj => ?_)
  match j, hj with
  | 0, _ => rfl
  | 1, _ => rfl
  | 2, _ => rfl
  | 3, _ => rfl
  | 4, _ => rfl
abbrev LoopZL (k0 : Int) := LoopZ Hd.cells id 25 5 (fun A i c => ⟨k0, 0, ByteArray.empty, A, i, c, none, 0, 0⟩)
abbrev LoopZF (k0 : Int) := LoopZ pcells Prod.snd 36 6 (fun A i c => ⟨k0, 0, ByteArray.empty, none, 0, 0, A, i, c⟩)
theorem zip_back {α β : Type} : ∀ us : List (α × β), (us.map Prod.fst).zip (us.map Prod.snd) = us
  | [] => rfl
  | (a, b) :: r => by simp [zip_back r]
theorem own_capZ {w : World} {base : Nat} {e : TypeId} {size : Nat} {A : Option Addr} {n c : Nat} {xs : List Value} (h : w.ownsRow base e size (.slice A n c) n xs) : n ≤ c := by
  rcases h.2 with ⟨e, h0⟩ | ⟨g, cap, cur, hv, _, _, hle, _⟩
  · omega
  · injection hv with _ _ h3; omega
theorem LoopZ.doneL {wd wr wf : World} {O n B : Nat} {k0 : Int} {l : List Va} {S : Nat → Prop} {us : List Hd} {A' : Option Addr} {c' : Nat} (H : LoopZL k0 wd O S l n wr us A' c') (hn : n = l.length) (hlm : l.length ≤ maxLen) (hk0 : -9223372036854775808 ≤ k0 ∧ k0 ≤ 9223372036854775807)
    (hB : B ≤ wd.heap.size) (hblk : ∀ b, b < wr.heap.size → (S b ∨ wd.heap.size ≤ b) → wf.heap[b]? = wr.heap[b]?) : Lies wf (fun b => S b ∨ B ≤ b) (.mk k0 0 ByteArray.empty l [] []) ⟨k0, 0, ByteArray.empty, A', n, c', none, 0, 0⟩ := by
  subst hn
  have own := H.own
  have cap := own_capZ own
  unfold Lies
  refine ⟨⟨rfl, rfl, rfl, rfl, rfl, rfl⟩, ⟨hk0, by decide, by decide, by simp, hlm, by decide, cap, Nat.le_refl _⟩, ⟨us, ?_, LiesL_mk H.len fun i y u hy hu => ?_⟩, ⟨[], fun h => by simp at h, by unfold LiesL; rfl⟩⟩
  · have own2 : wf.ownsRow wd.heap.size 25 5 (.slice A' l.length c') l.length (us.flatMap Hd.cells) := own_block own fun g hg => hblk g (own_lo own hg).2 (.inr (own_lo own hg).1)
    exact row_of_own Hd.cells us cells_len own2 (fun g hg => .inr (by have := (own_lo own hg).1; omega)) (.inr (by decide))
  · refine Lies.keep (fun p hp hlt => World.cell?_of_block (hblk p.block hlt hp.1)) (fun b hb _ => ?_) y u (H.lies i y u hy hu)
    rcases hb.1 with h | h
    · exact .inl h
    · exact .inr (by omega)
theorem LoopZ.doneF {wd wr wf : World} {O n B : Nat} {k0 : Int} {ks : List ByteArray} {l : List Va} {S : Nat → Prop} {us : List (ByteArray × Hd)} {A' : Option Addr} {c' : Nat} (H : LoopZF k0 wd O S l n wr us A' c') (hn : n = l.length) (hus : us.map Prod.fst = ks) (hkm : ∀ x ∈ ks, x.size ≤ maxLen) (hlm : l.length ≤ maxLen) (hk0 : -9223372036854775808 ≤ k0 ∧ k0 ≤ 9223372036854775807)
    (hB : B ≤ wd.heap.size) (hblk : ∀ b, b < wr.heap.size → (S b ∨ wd.heap.size ≤ b) → wf.heap[b]? = wr.heap[b]?) : Lies wf (fun b => S b ∨ B ≤ b) (.mk k0 0 ByteArray.empty [] ks l) ⟨k0, 0, ByteArray.empty, none, 0, 0, A', n, c'⟩ := by
  subst hn hus
  have own := H.own
  have cap := own_capZ own
  unfold Lies
  refine ⟨⟨rfl, rfl, rfl, rfl, rfl, by simp [H.len]⟩, ⟨hk0, by decide, by decide, hkm, by decide, hlm, Nat.le_refl _, cap⟩, ⟨[], fun h => by simp at h, by unfold LiesL; rfl⟩, ⟨us.map Prod.snd, ?_, LiesL_mk (by simp [H.len]) fun i y u hy hu => ?_⟩⟩
  · have own2 : wf.ownsRow wd.heap.size 36 6 (.slice A' l.length c') l.length (us.flatMap pcells) := own_block own fun g hg => hblk g (own_lo own hg).2 (.inr (own_lo own hg).1)
    rw [zip_back]
    exact row_of_own pcells us pcells_len own2 (fun g hg => .inr (by have := (own_lo own hg).1; omega)) (.inr (by decide))
  · rw [List.getElem?_map, Option.map_eq_some_iff] at hu
    obtain ⟨q, hq, rfl⟩ := hu
    refine Lies.keep (fun p hp hlt => World.cell?_of_block (hblk p.block hlt hp.1)) (fun b hb _ => ?_) y q.2 (H.lies i y q hy hq)
    rcases hb.1 with h | h
    · exact .inl h
    · exact .inr (by omega)
def ldY : Op := Op.load 25 (Operand.tmp 10)
/-- The five cells of a box. -/
abbrev X5 (M : Nat) (x : Hd) (w : World) : Prop := w.cell? ⟨M, 0, none⟩ = some (.int .i64 x.k) ∧ w.cell? ⟨M, 1, none⟩ = some (.int .i64 x.n) ∧ w.cell? ⟨M, 2, none⟩ = some (.string x.s) ∧ w.cell? ⟨M, 3, none⟩ = some (.slice x.A x.la x.lc) ∧ w.cell? ⟨M, 4, none⟩ = some (.slice x.F x.lf x.fc)
theorem X5.blk {M : Nat} {x : Hd} {w w' : World} (h : X5 M x w) (hM : w'.heap[M]? = w.heap[M]?) : X5 M x w' :=
  ⟨(World.cell?_of_block (a := ⟨M, 0, none⟩) hM).trans h.1, (World.cell?_of_block (a := ⟨M, 1, none⟩) hM).trans h.2.1, (World.cell?_of_block (a := ⟨M, 2, none⟩) hM).trans h.2.2.1, (World.cell?_of_block (a := ⟨M, 3, none⟩) hM).trans h.2.2.2.1, (World.cell?_of_block (a := ⟨M, 4, none⟩) hM).trans h.2.2.2.2⟩
theorem liesY {S : Nat → Prop} {wr wy w5 wq : World} {Z : Nat} {own : Option Nat} {y : Va} {h' : Hd} (hl : Lies w5 (fun b => S b ∨ wy.heap.size ≤ b) y h') (hs : wy.heap.size = wr.heap.size + 1) (hq : w5.heap.size ≤ wq.heap.size) (hZ : Z ≤ wr.heap.size) (hSZ : ∀ b, S b → b < Z) (hown : ∀ b, own = some b → Z ≤ b ∧ b < wr.heap.size)
    (hblk : ∀ b, b < w5.heap.size → b ≠ wr.heap.size → wq.heap[b]? = w5.heap[b]?) : Lies wq (fun b => (S b ∨ Z ≤ b) ∧ b < wq.heap.size ∧ own ≠ some b) y h' := by
  have hne : ∀ b, S b ∨ wy.heap.size ≤ b → b ≠ wr.heap.size := fun b hb => by
    rcases hb with hb | hb
    · have := hSZ b hb; omega
    · omega
  refine Lies.keep (fun q hq1 hl1 => World.cell?_of_block (hblk _ hl1 (hne _ hq1))) (fun b hb hl1 => ⟨?_, by omega, fun e => ?_⟩) _ _ hl
  · rcases hb with hb | hb
    · exact .inl hb
    · exact .inr (by omega)
  · have h1 := hown b e
    rcases hb with hb | hb
    · have := hSZ b hb; omega
    · omega
def ldQ : Op := Op.load 25 (Operand.tmp 66)
def prAt (q : ByteArray × Hd) (j : Nat) : Value := (pcells q).getD j undef
theorem prAt_row {w : World} {N : Nat} {key : ByteArray} {u : Hd} (H : w.heap[N]? = some (.cells #[.string key, .int .i64 u.k, .int .i64 u.n, .string u.s, .slice u.A u.la u.lc, .slice u.F u.lf u.fc] 36)) : w.rowIs N 36 6 (prAt (key, u)) := by
  refine ⟨_, H, rfl, fun i hi => ?_⟩
  match i, hi with
  | 0, _ => rfl
  | 1, _ => rfl
  | 2, _ => rfl
  | 3, _ => rfl
  | 4, _ => rfl
  | 5, _ => rfl
abbrev resP (W : World) (R : Nat) (u : Hd) : World := (((((W.setCell ⟨R, 1, none⟩ (.int .i64 u.k)).setCell ⟨R, 2, none⟩ (.int .i64 u.n)).setCell ⟨R, 3, none⟩ (.string u.s)).setCell ⟨R, 4, none⟩ (.slice u.A u.la u.lc)).setCell ⟨R, 5, none⟩ (.slice u.F u.lf u.fc))
theorem resP_set {W : World} {R : Nat} {u : Hd} (b : Nat) (h : b ≠ R) : (resP W R u).heap[b]? = W.heap[b]? := by
  unfold resP
  rw [Below.heap_setCell _ _ _ _ h, Below.heap_setCell _ _ _ _ h, Below.heap_setCell _ _ _ _ h, Below.heap_setCell _ _ _ _ h, Below.heap_setCell _ _ _ _ h]
theorem resP_below {B R : Nat} {w w' : World} {u : Hd} (h : Below B w w') (hg : B ≤ R) : Below B w (resP w' R u) := ((((h.setCell hg _).setCell hg _).setCell hg _).setCell hg _).setCell hg _
theorem resP_row {W : World} {R : Nat} {key : ByteArray} {v u : Hd} (H : W.rowIs R 36 6 (prAt (key, v))) : (resP W R u).rowIs R 36 6 (prAt (key, u)) := by
  refine (((((H.set 1 _).set 2 _).set 3 _).set 4 _).set 5 _).congr (fun j hj => ?_)
  match j, hj with
  | 0, _ => rfl
  | 1, _ => rfl
  | 2, _ => rfl
  | 3, _ => rfl
  | 4, _ => rfl
  | 5, _ => rfl
theorem fst_next {ks : List ByteArray} {us : List (ByteArray × Hd)} {j : Nat} {key : ByteArray} {u : Hd} (h : us.map Prod.fst = ks.take j) (hk : ks[j]? = some key) : (us ++ [(key, u)]).map Prod.fst = ks.take (j + 1) := by
  rw [List.map_append, h, take_next hk]
  rfl
theorem resW_row {W : World} {R : Nat} {f : Nat → Value} {u : Hd} (H : W.rowIs R 25 5 f) : (((((W.setCell ⟨R, 0, none⟩ (.int .i64 u.k)).setCell ⟨R, 1, none⟩ (.int .i64 u.n)).setCell ⟨R, 2, none⟩ (.string u.s)).setCell ⟨R, 3, none⟩ (.slice u.A u.la u.lc)).setCell ⟨R, 4, none⟩ (.slice u.F u.lf u.fc)).rowIs R 25 5 (hdAt u) := by
  refine (((((H.set 0 _).set 1 _).set 2 _).set 3 _).set 4 _).congr (fun j hj => ?_)
  match j, hj with
  | 0, _ => rfl
  | 1, _ => rfl
  | 2, _ => rfl
  | 3, _ => rfl
  | 4, _ => rfl
theorem news_one {W : World} {N : Nat} (cs : Array Value) (t : TypeId) (hs : W.heap.size = N) : ∀ (j : Nat) u, cs.toList[j]? = some u → (W.alloc (.cells cs t)).cell? ((⟨N, 0, none⟩ : Addr).add j) = some u := by
  subst hs
  exact World.news_of_block (heap_alloc_new W _)
set_option maxHeartbeats 16000000 in
set_option maxRecDepth 100000 in
theorem put_ref (S : Nat → Prop) (x : Va) (hx : Hd) (p : List St) : ∀ (a : Va) (h : Hd) (w : World) (A : Option Addr) (m c d : Nat), (∀ b, S b → b < w.heap.size) → Lies w S a h → Lies w S x hx → PathAt w A p → (∀ s ∈ p, StR s) → m = p.length → m ≤ c → m ≤ 1000 → a.cnt ≤ 1000 → a.R d → (goV a p).isSome = true →
    Calls Try.prog 113 #[h.val, .slice A m c, hx.val] w fun e w' => RepR S (putV a p x) w e w' := by
  obtain ⟨i0, hi0, hz0, hz1, hz2⟩ := info_parts info25
  obtain ⟨i6, hj0, hy0, hy1, hy2⟩ := info_parts info36
  induction p with
  | nil =>
    intro a h w A m c d hSb H HX hA hR hm hc hp hcn hrd hgo
    obtain rfl : m = 0 := hm
    have HXX := Lib.hid HX
    have HB3 := Lib.hid (three_allocs w (Obj.cells #[.int .i64 h.k, .int .i64 h.n, .string h.s, .slice h.A h.la h.lc, .slice h.F h.lf h.fc] 25) (Obj.cells #[.int .i64 hx.k, .int .i64 hx.n, .string hx.s, .slice hx.A hx.la hx.lc, .slice hx.F hx.lf hx.fc] 25) (Obj.cells #[.int .i64 hx.k, .int .i64 hx.n, .string hx.s, .slice hx.A hx.la hx.lc, .slice hx.F hx.lf hx.fc] 25))
    have hpv : putV a [] x = x := by cases a; rfl
    rw [hpv]
    clear H HX hA hR hc hp hcn hrd hgo hSb hpv
    unfold Hd.val at *
    go_enter Try.func113, Try.ntmps113
    go_wp2_with fail
    refine bodyPost_ret (v := .agg #[.int .i64 hx.k, .int .i64 hx.n, .string hx.s, .slice hx.A hx.la hx.lc, .slice hx.F hx.lf hx.fc]) (by simp [results, Try.results113, go_sem]; try rfl) rfl ?_
    exact ⟨hx, rfl, Lies.keep (fun q _ hq => HB3.out.cell hq) (fun b hb _ => .inl hb) _ _ HXX.out, HB3.out⟩
  | cons s p ih =>
    intro a h w A m c d hSb H HX hA hR hm hc hp hcn hrd hgo
    obtain ⟨ad, rfl, hbl, hat, hok⟩ := hA 0 s rfl
    have e0 : ad.add (0 * 3) = ad := by simp [Addr.add]
    rw [e0] at hat hbl
    have HSR := Lib.hid (hR s (by simp))
    have HTL := Lib.hid hA.tail
    have hm1 : m = p.length + 1 := by simpa using hm
    have HPL := Lib.hid hm1
    have HSb := Lib.hid hSb
    have hm0i : (1 : Int) ≤ (m : Int) := by omega
    have hm0j : (0 : Int) < (m : Int) := by omega
    have hm0k : 0 < m := by omega
    have hm00 : ((m : Int) == 0) = false := by simp; omega
    by_cases hc1 : c = 1
    · subst hc1
      obtain rfl : m = 1 := by omega
      obtain ⟨k, n, t, l, ks, f⟩ := a
      obtain ⟨bb, hbb⟩ := Option.isSome_iff_exists.1 hgo
      obtain ⟨i, y, hsi, hyL, hyF, hgy⟩ := goV_cons hbb
      have HGY : Hid ((goV y p).isSome = true) := Lib.hid (by rw [hgy]; rfl)
      have IH := Lib.hid (fun (y : Va) (u : Hd) (W : World) (A' : Option Addr) (m' c' : Nat) (h0 : ∀ b, S b → b < W.heap.size) (h1 : Lies W S y u) (h2 : Lies W S x hx) (h3 : PathAt W A' p) (h4 : m' = p.length) (h5 : m' ≤ c') (h6 : y.cnt ≤ 1000) (h8 : y.R (d - 1)) (h7 : (goV y p).isSome = true) => ih y u W A' m' c' (d - 1) h0 h1 h2 h3 (fun t ht => hR t (by simp [ht])) h4 h5 (by omega) h6 h8 h7)
      have HH := Lib.hid H
      have HXX := Lib.hid HX
      simp only [Lies] at H
      obtain ⟨⟨e1, e2, e3, e4, e5, e6⟩, -, -⟩ := H
      obtain ⟨hk, hnn, hss, HA, la, lc, F, lf, fc⟩ := h
      simp only at e1 e4 e5
      subst e1 e4
      have hlf : lf = f.length := e5
      subst hlf
      have HE6 := Lib.hid e6
      have HCN := Lib.hid hcn
      have hll : l.length ≤ 1000 := by have := len_le_cntL l; simp only [Va.cnt] at hcn; omega
      have hfl : f.length ≤ 1000 := by have := len_le_cntL f; simp only [Va.cnt] at hcn; omega
      have HRD := Lib.hid hrd
      have HLT := Lib.hid (subI_lt e6 HSR.out hsi)
      have HSI := Lib.hid hsi
      unfold Hd.val at *
      simp only
      -- the world behind the three blocks
      obtain ⟨wd, hwd⟩ : ∃ wd, wd = ((w.alloc (Obj.cells #[.int .i64 hk, .int .i64 hnn, .string hss, .slice HA l.length lc, .slice F f.length fc] 25)).alloc (Obj.cells #[.int .i64 hx.k, .int .i64 hx.n, .string hx.s, .slice hx.A hx.la hx.lc, .slice hx.F hx.lf hx.fc] 25)).alloc (Obj.cells #[.int .i64 0, .int .i64 0, .string { data := #[] }, .slice none 0 0, .slice none 0 0] 25) := ⟨_, rfl⟩
      have hb2 : Below w.heap.size w wd := by rw [hwd]; exact three_allocs _ _ _ _
      have hsz : wd.heap.size = w.heap.size + 3 := by rw [hwd]; simp
      have hbox : wd.rowIs w.heap.size 25 5 (hdAt ⟨hk, hnn, hss, HA, l.length, lc, F, f.length, fc⟩) := by
        rw [hwd]
        refine hdAt_row ?_
        rw [Below.heap_alloc _ _ _ (by simp; omega), Below.heap_alloc _ _ _ (by simp)]
        exact heap_alloc_new _ _
      have hbxx : wd.rowIs (w.heap.size + 1) 25 5 (hdAt hx) := by
        rw [hwd]
        refine hdAt_row ?_
        rw [Below.heap_alloc _ _ _ (by simp)]
        have h9 := heap_alloc_new (w.alloc (Obj.cells #[.int .i64 hk, .int .i64 hnn, .string hss, .slice HA l.length lc, .slice F f.length fc] 25)) (Obj.cells #[.int .i64 hx.k, .int .i64 hx.n, .string hx.s, .slice hx.A hx.la hx.lc, .slice hx.F hx.lf hx.fc] 25)
        rwa [World.size_alloc] at h9
      have hres : wd.rowIs (w.heap.size + 1 + 1) 25 5 zeroRes := by
        rw [hwd]
        refine hdAt_row (h := zeroHd) ?_
        have h9 := heap_alloc_new ((w.alloc (Obj.cells #[.int .i64 hk, .int .i64 hnn, .string hss, .slice HA l.length lc, .slice F f.length fc] 25)).alloc (Obj.cells #[.int .i64 hx.k, .int .i64 hx.n, .string hx.s, .slice hx.A hx.la hx.lc, .slice hx.F hx.lf hx.fc] 25)) (Obj.cells #[.int .i64 0, .int .i64 0, .string { data := #[] }, .slice none 0 0, .slice none 0 0] 25)
        rwa [World.size_alloc, World.size_alloc] at h9
      have HWD := Lib.hid hwd
      clear hA hR e2 e3 e5 e6 hok e0 hcn hm hm1 ih hgo hbb hwd hSb HX hgy
      go_enter Try.func113, Try.ntmps113
      go_wp2_with fail
      rw [← HWD.out]
      clear HWD
      obtain ⟨q0, q1, q2⟩ := hat.below hb2 hbl
      have hbld : ad.block < wd.heap.size := by omega
      have hNd : w.heap.size < wd.heap.size := by omega
      have b0 := hbox.cell (show 0 < 5 by decide)
      have b1 := hbox.cell (show 1 < 5 by decide)
      have b2 := hbox.cell (show 2 < 5 by decide)
      have b3 := hbox.cell (show 3 < 5 by decide)
      have b4 := hbox.cell (show 4 < 5 by decide)
      simp only [hdAt, Hd.cells, List.getD_cons_succ, List.getD_cons_zero] at b0 b1 b2 b3 b4
      have Q0 : ∀ x : BlwBy wd, x.now.cell? ad = some (.string s.k) := fun x => x.cellA hbld q0
      have Q1 : ∀ x : BlwBy wd, x.now.cell? ⟨ad.block, ad.off + 1, none⟩ = some (.int .i64 s.a) := fun x => x.cellA (a := ⟨ad.block, ad.off + 1, none⟩) hbld q1
      have Q2 : ∀ x : BlwBy wd, x.now.cell? ⟨ad.block, ad.off + 2, none⟩ = some (.bool s.i) := fun x => x.cellA (a := ⟨ad.block, ad.off + 2, none⟩) hbld q2
      have B0 : ∀ x : BlwBy wd, x.now.cell? ⟨w.heap.size, 0, none⟩ = some (.int .i64 hk) := fun x => x.cell hNd b0
      have B1 : ∀ x : BlwBy wd, x.now.cell? ⟨w.heap.size, 1, none⟩ = some (.int .i64 hnn) := fun x => x.cell hNd b1
      have B2 : ∀ x : BlwBy wd, x.now.cell? ⟨w.heap.size, 2, none⟩ = some (.string hss) := fun x => x.cell hNd b2
      have B3 : ∀ x : BlwBy wd, x.now.cell? ⟨w.heap.size, 3, none⟩ = some (.slice HA l.length lc) := fun x => x.cell hNd b3
      have B4 : ∀ x : BlwBy wd, x.now.cell? ⟨w.heap.size, 4, none⟩ = some (.slice F f.length fc) := fun x => x.cell hNd b4
      have HHd := Lib.hid (HH.out.below hb2 (Nat.le_refl _))
      have KM : Hid (∀ x : BlwBy wd, Calls Try.prog 87 #[.agg #[.int .i64 hk, .int .i64 hnn, .string hss, .slice HA l.length lc, .slice F f.length fc], .agg #[.string s.k, .int .i64 s.a, .bool s.i]] x.now fun e w'' => e = .returned (.int .i64 (mI (subI (.mk hk n t l ks f) s))) ∧ ∃ q : BlwBy wd, w'' = q.now) := Lib.hid (fun x => Calls.below_of (next_ref (.mk hk n t l ks f) S ⟨hk, hnn, hss, HA, l.length, lc, F, f.length, fc⟩ x.now s (HHd.out.below x.bel (Nat.le_refl _)) HSR.out HCN.out))
      have HB2 := Lib.hid hb2
      have HRES := Lib.hid hres
      have HBOX := Lib.hid hbox
      have HBXX := Lib.hid hbxx
      clear hb2 hres hbox hbxx b0 b1 b2 b3 b4
      refine wp_quiet_below (by kernel_rfl) (by kernel_rfl) ?_
      repeat (quiet_step (first | (go_at_call 87; exact KM.out _)))
      refine wpQuiet_nil ?_
      intro w9 hw'
      have hb9 : Below wd.heap.size wd w9 := by obtain ⟨⟨wx, hbx⟩, hw''⟩ := hw'; rw [hw'']; exact hbx
      clear hw'
      have HB9 := Lib.hid (HB2.out.trans (hb9.mono (by omega)))
      have hs9 := hb9.size
      have HRES9 := Lib.hid (rowIs_below HRES.out hb9 (by omega))
      have HBOX9 := Lib.hid (rowIs_below HBOX.out hb9 (by omega))
      have HBXX9 := Lib.hid (rowIs_below HBXX.out hb9 (by omega))
      have r0 := (hb9.cell hbld).trans q0
      have r1 := (hb9.cell (p := ⟨ad.block, ad.off + 1, none⟩) hbld).trans q1
      have r2 := (hb9.cell (p := ⟨ad.block, ad.off + 2, none⟩) hbld).trans q2
      have hbl9 : ad.block < w9.heap.size := by omega
      clear Q0 Q1 Q2 B0 B1 B2 B3 B4 KM HRES HBOX HBXX q0 q1 q2 hb9 HHd HB2
      simp only [mI]
      have hci : (0 : Int) ≤ (i : Int) := by omega
      have hR1 := HRD.out
      simp only [Va.R] at hR1
      obtain ⟨-, hT, -, hRL, hRF⟩ := hR1
      have HRLF := Lib.hid (show RL l (d - 1) ∧ RL f (d - 1) from ⟨hRL, hRF⟩)
      clear hRL hRF
      cases hst : s.i
      · obtain ⟨hil, h4⟩ := HLT.out.2 hst
        obtain rfl : hk = 5 := h4
        obtain rfl : l = [] := by
          have := hT.c3
          cases l with
          | nil => rfl
          | cons a b => exact absurd ⟨by decide, by simp⟩ this
        obtain rfl : n = 0 := by
          have := hT.c1
          by_cases e : n = 0
          · exact e
          · exact absurd ⟨by decide, by decide, e⟩ this
        obtain rfl : t = ByteArray.empty := by
          have := hT.c2
          by_cases e : t.size = 0
          · exact empty_of e
          · exact absurd ⟨by decide, e⟩ this
        have hyl := hyF hst
        have HYL := Lib.hid hyl
        have HST := Lib.hid hst
        have HXC := Lib.hid (Nat.le_trans (cnt_sub (k := 5) (n := 0) (t := ByteArray.empty) (l := []) (ks := ks) (f := f) (.inr (List.mem_of_getElem? hyl))) HCN.out)
        have HOP := Lib.hid HH.out.op
        have b0 := HBOX9.out.cell (show 0 < 5 by decide)
        simp only [hdAt, Hd.cells, List.getD_cons_succ, List.getD_cons_zero] at b0
        clear hT hyl hyF hyL hst
        go_wp2_with fail
        have hbd := one_alloc w9 (Obj.cells #[.int .i64 5, .int .i64 0, .string { data := #[] }, .slice none 0 0, .slice none 0 0] 25)
        have hrow : (w9.alloc (Obj.cells #[.int .i64 5, .int .i64 0, .string { data := #[] }, .slice none 0 0, .slice none 0 0] 25)).rowIs w9.heap.size 25 5 (hdAt ⟨5, 0, ByteArray.empty, none, 0, 0, none, 0, 0⟩) := hdAt_row (h := ⟨5, 0, ByteArray.empty, none, 0, 0, none, 0, 0⟩) (heap_alloc_new _ _)
        have hszd : (w9.alloc (Obj.cells #[.int .i64 5, .int .i64 0, .string { data := #[] }, .slice none 0 0, .slice none 0 0] 25)).heap.size = w9.heap.size + 1 := by simp
        generalize w9.alloc (Obj.cells #[.int .i64 5, .int .i64 0, .string { data := #[] }, .slice none 0 0, .slice none 0 0] 25) = wz at hbd hrow hszd ⊢
        have HBZ := Lib.hid (HB9.out.trans (hbd.mono (by omega)))
        have HRESZ := Lib.hid (rowIs_below HRES9.out hbd (by omega))
        have HBOXZ := Lib.hid (rowIs_below HBOX9.out hbd (by omega))
        have HBXXZ := Lib.hid (rowIs_below HBXX9.out hbd (by omega))
        have HROW := Lib.hid hrow
        clear hbd hrow b0 HB9 HRES9 HBOX9 HBXX9 r0 r1 r2
        have b3 := HBOXZ.out.cell (show 3 < 5 by decide)
        simp only [hdAt, Hd.cells, List.getD_cons_succ, List.getD_cons_zero, List.length_nil] at b3
        go_loopw [9] (fun iv wr => iv = .int .i64 0 ∧ wz = wr) (fun _ _ => 0)
        case atStart => exact ⟨rfl, rfl⟩
        case round =>
         obtain ⟨rfl, rfl⟩ := hrel
         go_wp2_with fail
         clear b3
         go_loopw [11] (fun iv wr2 => ∃ (j : Nat) (us : List (ByteArray × Hd)) (A' : Option Addr) (c' : Nat), iv = .int .i64 j ∧ j ≤ f.length ∧ us.map Prod.fst = ks.take j ∧ LoopZF 5 wz w9.heap.size S (f.set i (putV y p x)) j wr2 us A' c') (fun iv _ => f.length - (intOf iv).toNat)
         case atStart => exact ⟨0, [], none, 0, rfl, Nat.zero_le _, by simp, ⟨Kp.refl _ _, HROW.out, World.ownsRow_nil _ _ _ _, rfl, fun j y u _ hu => by simp at hu⟩⟩
         case round =>
          obtain ⟨j, us, A', c', rfl, hj, hus, hLZ⟩ := hrel
          have HUS := Lib.hid hus
          clear hus
          have HLZ := Lib.hid hLZ
          have hkp := HLZ.out.kp
          have cO := HLZ.out.row.cell (show 4 < 5 by decide)
          have fO := HLZ.out.row.frozen 4
          have hOr := HLZ.out.row.lt
          have hszr := HLZ.out.kp.size
          have HRO := Lib.hid (show some w9.heap.size ≠ (Value.slice A' j c').ownBlock from fun e => by have := own_lo HLZ.out.own e.symm; omega)
          have box := rowIs_below' (B := 0) HBOXZ.out (hkp.block w.heap.size (by omega) HBOXZ.out.lt)
          have bxx := rowIs_below' (B := 0) HBXXZ.out (hkp.block (w.heap.size + 1) (by omega) HBXXZ.out.lt)
          have b4 := box.cell (show 4 < 5 by decide)
          have HBR := Lib.hid (show Below w.heap.size w wr from HBZ.out.trans (hkp.bel.mono (by omega)))
          have hRr : wr.rowIs (w.heap.size + 1 + 1) 25 5 zeroRes := rowIs_below' (B := 0) HRESZ.out (hkp.block (w.heap.size + 1 + 1) (by omega) HRESZ.out.lt)
          have HRR := Lib.hid hRr
          simp only [hdAt, Hd.cells, List.getD_cons_succ, List.getD_cons_zero] at cO b4
          by_cases hlt : j < f.length
          · obtain ⟨xx, hxx⟩ : ∃ xx, f[j]? = some xx := ⟨f[j], List.getElem?_eq_getElem hlt⟩
            obtain ⟨ad2, u, key, hA2, hSad, hab, hkj, hkm, hLu, hat2⟩ := HOP.out.K j xx hxx
            obtain ⟨k0, k1, k2, k3, k4, k5⟩ := hat2.below HBR.out hab
            obtain rfl : F = some ad2 := hA2
            have HKJ := Lib.hid hkj
            have HLu := Lib.hid hLu
            have HXJ := Lib.hid hxx
            by_cases hij : j = i
            · subst hij
              have x0 := bxx.cell (show 0 < 5 by decide)
              have x1 := bxx.cell (show 1 < 5 by decide)
              have x2 := bxx.cell (show 2 < 5 by decide)
              have x3 := bxx.cell (show 3 < 5 by decide)
              have x4 := bxx.cell (show 4 < 5 by decide)
              simp only [hdAt, Hd.cells, List.getD_cons_succ, List.getD_cons_zero] at x0 x1 x2 x3 x4
              clear hLZ hkp hLu hat2 hxx box bxx hRr hkj hkm
              obtain rfl : xx = y := by have h1 := HXJ.out; rw [HYL.out] at h1; injection h1 with h1; exact h1.symm
              go_upto_region 16 with fail
              have hby := one_alloc wr (Obj.cells #[.string key, .int .i64 u.k, .int .i64 u.n, .string u.s, .slice u.A u.la u.lc, .slice u.F u.lf u.fc] 36)
              have hyr : (wr.alloc (Obj.cells #[.string key, .int .i64 u.k, .int .i64 u.n, .string u.s, .slice u.A u.la u.lc, .slice u.F u.lf u.fc] 36)).rowIs wr.heap.size 36 6 (prAt (key, u)) := prAt_row (heap_alloc_new _ _)
              have hsy : (wr.alloc (Obj.cells #[.string key, .int .i64 u.k, .int .i64 u.n, .string u.s, .slice u.A u.la u.lc, .slice u.F u.lf u.fc] 36)).heap.size = wr.heap.size + 1 := by simp
              generalize wr.alloc (Obj.cells #[.string key, .int .i64 u.k, .int .i64 u.n, .string u.s, .slice u.A u.la u.lc, .slice u.F u.lf u.fc] 36) = wy at hby hyr hsy ⊢
              have HBY := Lib.hid hby
              have HBD := Lib.hid (show Below w.heap.size w wy.drew from (HBR.out.trans (hby.mono HBR.out.size)).trans ((Below.refl _ _).drew))
              have HYR := Lib.hid (show ∀ w5, Below wy.drew.heap.size wy.drew w5 → w5.rowIs wr.heap.size 36 6 (prAt (key, u)) from fun w5 hb => rowIs_below hyr.drew hb (show wr.heap.size < wy.heap.size by omega))
              have hN1 : w.heap.size + 1 < wr.heap.size := by omega
              have HS0 : Hid (X5 (w.heap.size + 1) hx wy.drew) := Lib.hid ⟨(hby.cell (p := ⟨w.heap.size + 1, 0, none⟩) hN1).trans x0, (hby.cell (p := ⟨w.heap.size + 1, 1, none⟩) hN1).trans x1, (hby.cell (p := ⟨w.heap.size + 1, 2, none⟩) hN1).trans x2, (hby.cell (p := ⟨w.heap.size + 1, 3, none⟩) hN1).trans x3, (hby.cell (p := ⟨w.heap.size + 1, 4, none⟩) hN1).trans x4⟩
              have HS1 := Lib.hid (show ∀ w5, Below wy.drew.heap.size wy.drew w5 → X5 (w.heap.size + 1) hx w5 from fun w5 hb => X5.blk HS0.out (hb.block _ (show w.heap.size + 1 < wy.heap.size by omega)))
              have HS2 := Lib.hid (show ∀ w5 (v : Hd), Below wy.drew.heap.size wy.drew w5 → X5 (w.heap.size + 1) hx (resP w5 wr.heap.size v) from fun w5 v hb => X5.blk (HS1.out w5 hb) (resP_set _ (by omega)))
              have hld : ldQ = Op.load 25 (Operand.tmp 66) := rfl
              have y0 := hyr.cell (show 0 < 6 by decide)
              have y1 := hyr.cell (show 1 < 6 by decide)
              have y2 := hyr.cell (show 2 < 6 by decide)
              have y3 := hyr.cell (show 3 < 6 by decide)
              have y4 := hyr.cell (show 4 < 6 by decide)
              have y5 := hyr.cell (show 5 < 6 by decide)
              simp only [prAt, pcells, Hd.cells, List.getD_cons_succ, List.getD_cons_zero] at y0 y1 y2 y3 y4 y5
              have HY := Lib.hid (show (f.set j (putV xx p x))[j]? = some (putV xx p x) from List.getElem?_set_self hlt)
              clear hby hyr x0 x1 x2 x3 x4
              have HCL := Lib.hid (IH.out xx u wy.drew (some ad) 0 0 (fun b hb => by have := HSb.out b hb; show b < wy.heap.size; omega) (HLu.out.below HBD.out (Nat.le_refl _)) (HXX.out.below HBD.out (Nat.le_refl _)) (by have : p = [] := List.length_eq_zero_iff.1 (by have := HPL.out; omega); rw [this]; exact PathAt.nil _ _) (by have := HPL.out; omega) (Nat.le_refl _) HXC.out (RL_mem HRLF.out.2 (List.mem_of_getElem? HXJ.out)) HGY.out)
              go_wp2_with fail
              rw [show Op.load 25 (Operand.tmp 66) = ldQ from rfl]
              go_region_held3 (fun w' => w'.cell? ⟨w.heap.size + 1, 0, none⟩ = some (.int .i64 hx.k) ∧ w'.cell? ⟨w.heap.size + 1, 1, none⟩ = some (.int .i64 hx.n) ∧ w'.cell? ⟨w.heap.size + 1, 2, none⟩ = some (.string hx.s) ∧ w'.cell? ⟨w.heap.size + 1, 3, none⟩ = some (.slice hx.A hx.la hx.lc) ∧ w'.cell? ⟨w.heap.size + 1, 4, none⟩ = some (.slice hx.F hx.lf hx.fc))
                (first
                  | (with_reducible exact HS2.out _ _ hb5)
                  | (have h7 := HS1.out _ hb5; with_reducible exact h7)
                  | (have h7 := HS0.out; with_reducible exact h7)
                  | fail)
                (first
                  | (go_at_call 113; refine HCL.out.mono ?_; rintro e w5 ⟨h', rfl, hl5, hb5⟩; have y1 := (HYR.out _ hb5).cell (show 1 < 6 by decide); have yf1 := (HYR.out _ hb5).frozen 1; have y2 := (HYR.out _ hb5).cell (show 2 < 6 by decide); have yf2 := (HYR.out _ hb5).frozen 2; have y3 := (HYR.out _ hb5).cell (show 3 < 6 by decide); have yf3 := (HYR.out _ hb5).frozen 3; have y4 := (HYR.out _ hb5).cell (show 4 < 6 by decide); have yf4 := (HYR.out _ hb5).frozen 4; have y5 := (HYR.out _ hb5).cell (show 5 < 6 by decide); have yf5 := (HYR.out _ hb5).frozen 5; have y0 := (HYR.out _ hb5).cell (show 0 < 6 by decide); have HL5 := Lib.hid hl5; have HB5 := Lib.hid hb5; clear hl5; simp only [prAt, pcells, Hd.cells, List.getD_cons_succ, List.getD_cons_zero] at y0 y1 y2 y3 y4 y5)
                  | fail)
              all_goals
                clear y0 y1 y2 y3 y4 y5 yf1 yf2 yf3 yf4 yf5
                have hb5w : Below wr.heap.size wr w5 := HBY.out.trans ((show Below wy.heap.size wy w5 from ((Below.refl _ _).drew).trans HB5.out).mono (by omega))
                have hb6 : Below wr.heap.size wr (((((w5.setCell ⟨wr.heap.size, 1, none⟩ (.int .i64 h'.k)).setCell ⟨wr.heap.size, 2, none⟩ (.int .i64 h'.n)).setCell ⟨wr.heap.size, 3, none⟩ (.string h'.s)).setCell ⟨wr.heap.size, 4, none⟩ (.slice h'.A h'.la h'.lc)).setCell ⟨wr.heap.size, 5, none⟩ (.slice h'.F h'.lf h'.fc)) := resP_below hb5w (Nat.le_refl _)
                have row6 : (((((w5.setCell ⟨wr.heap.size, 1, none⟩ (.int .i64 h'.k)).setCell ⟨wr.heap.size, 2, none⟩ (.int .i64 h'.n)).setCell ⟨wr.heap.size, 3, none⟩ (.string h'.s)).setCell ⟨wr.heap.size, 4, none⟩ (.slice h'.A h'.la h'.lc)).setCell ⟨wr.heap.size, 5, none⟩ (.slice h'.F h'.lf h'.fc)).rowIs wr.heap.size 36 6 (prAt (key, h')) := resP_row (HYR.out _ HB5.out)
                have hs6 : (((((w5.setCell ⟨wr.heap.size, 1, none⟩ (.int .i64 h'.k)).setCell ⟨wr.heap.size, 2, none⟩ (.int .i64 h'.n)).setCell ⟨wr.heap.size, 3, none⟩ (.string h'.s)).setCell ⟨wr.heap.size, 4, none⟩ (.slice h'.A h'.la h'.lc)).setCell ⟨wr.heap.size, 5, none⟩ (.slice h'.F h'.lf h'.fc)).heap.size = w5.heap.size := by simp
                have hk6 : ∀ b, b ≠ wr.heap.size → (((((w5.setCell ⟨wr.heap.size, 1, none⟩ (.int .i64 h'.k)).setCell ⟨wr.heap.size, 2, none⟩ (.int .i64 h'.n)).setCell ⟨wr.heap.size, 3, none⟩ (.string h'.s)).setCell ⟨wr.heap.size, 4, none⟩ (.slice h'.A h'.la h'.lc)).setCell ⟨wr.heap.size, 5, none⟩ (.slice h'.F h'.lf h'.fc)).heap[b]? = w5.heap[b]? := fun b hb => resP_set b hb
                generalize (((((w5.setCell ⟨wr.heap.size, 1, none⟩ (.int .i64 h'.k)).setCell ⟨wr.heap.size, 2, none⟩ (.int .i64 h'.n)).setCell ⟨wr.heap.size, 3, none⟩ (.string h'.s)).setCell ⟨wr.heap.size, 4, none⟩ (.slice h'.A h'.la h'.lc)).setCell ⟨wr.heap.size, 5, none⟩ (.slice h'.F h'.lf h'.fc)) = w6 at hb6 row6 hs6 hk6 ⊢
                have y0 := row6.cell (show 0 < 6 by decide)
                have y1 := row6.cell (show 1 < 6 by decide)
                have y2 := row6.cell (show 2 < 6 by decide)
                have y3 := row6.cell (show 3 < 6 by decide)
                have y4 := row6.cell (show 4 < 6 by decide)
                have y5 := row6.cell (show 5 < 6 by decide)
                simp only [prAt, pcells, Hd.cells, List.getD_cons_succ, List.getD_cons_zero] at y0 y1 y2 y3 y4 y5
                have cO6 := (hb6.cell (p := ⟨w9.heap.size, 4, none⟩) hOr).trans cO
                have fO6 := (hb6.frozen (p := ⟨w9.heap.size, 4, none⟩) hOr).trans fO
                have hO6 : w9.heap.size < w6.heap.size := by have := hb6.size; omega
                have HB6 := Lib.hid hb6
                have HK6 := Lib.hid hk6
                have hs5 : wy.heap.size ≤ w5.heap.size := HB5.out.size
                have HQ := Lib.hid (fun o : Obj => show Below wr.heap.size wr (w6.alloc o) from HB6.out.trans ((one_alloc w6 o).mono HB6.out.size))
                have HS6 := Lib.hid hs6
                have HSY := Lib.hid hsy
                clear hb5w hb6 row6 hk6 hs6 hsy
                go_wp2_with (at_builtin; refine wpList_append_lies _ rfl _ _ 23 rfl wz.heap.size 36 i6 _ 6 96 Try.underlying23 hj0 hy0 hy1 hy2 rfl (by decide) (.slice A' j c') j (us.flatMap pcells) rfl (own_below HLZ.out.own (HQ.out _) (Nat.le_refl _)) ⟨w6.heap.size, 0, none⟩ 1 1 (pcells (key, h')) rfl rfl (news_one _ _ rfl) (by simp [pcells, Hd.cells, Value.oneCell']) (by decide) (by unfold maxLen; omega) (by omega) (Nat.le_trans HLZ.out.kp.size (HQ.out _).size) _ rfl ?_; intro g cap w3 hown3 hgrow3 hat3 hlt3; have cO3 := cur_gr cO (HQ.out _) hgrow3 HRO.out; have fO3 := cur_grf cO fO (HQ.out _) hgrow3 HRO.out)
                refine ⟨⟨j + 1, us ++ [(key, h')], _, _, by go_num, by omega, fst_next HUS.out HKJ.out, HLZ.out.step (by omega) (fun b hb => by have := HSb.out b hb; omega) setc4 HY.out (HQ.out _) ?_ hown3 hgrow3 hat3⟩, by simp [intOf]; omega⟩
                exact liesY HL5.out HSY.out (by have := HS6.out; simp; omega) (by omega) (fun b hb => by have := HSb.out b hb; omega) (fun b hb => own_lo HLZ.out.own hb) (fun b hb hne => by rw [Below.heap_alloc _ _ _ (by have := HS6.out; omega)]; exact HK6.out b hne)
            · have hne : ((j : Int) == (i : Int)) = false := by simp; omega
              have HY := Lib.hid (show (f.set i (putV y p x))[j]? = some xx by rw [List.getElem?_set_ne (by omega)]; exact hxx)
              clear hLZ hkp hLu hat2 hxx box bxx hRr hkj hkm hij
              go_wp2_with (at_builtin; refine wpList_append_lies _ rfl _ _ 23 rfl wz.heap.size 36 i6 _ 6 96 Try.underlying23 hj0 hy0 hy1 hy2 rfl (by decide) (.slice A' j c') j (us.flatMap pcells) rfl (own_below HLZ.out.own (two_allocs wr _ _) (Nat.le_refl _)) ⟨wr.heap.size + 1, 0, none⟩ 1 1 (pcells (key, u)) rfl rfl (news_two wr _ _ _) (by simp [pcells, Hd.cells, Value.oneCell']) (by decide) (by unfold maxLen; omega) (by omega) (Nat.le_trans HLZ.out.kp.size ((two_allocs wr _ _)).size) _ rfl ?_; intro g cap w3 hown3 hgrow3 hat3 hlt3; have cO3 := cur_gr cO ((two_allocs wr _ _)) hgrow3 HRO.out; have fO3 := cur_grf cO fO ((two_allocs wr _ _)) hgrow3 HRO.out)
              refine ⟨⟨j + 1, us ++ [(key, u)], _, _, by go_num, by omega, fst_next HUS.out HKJ.out, HLZ.out.step (by omega) (fun b hb => by have := HSb.out b hb; omega) setc4 HY.out (two_allocs wr _ _) ?_ hown3 hgrow3 hat3⟩, by simp [intOf]; omega⟩
              refine Lies.keep (fun q hq hl => (HBR.out.trans ((two_allocs wr _ _).mono HBR.out.size)).cell hl) (fun b hb hl => ⟨.inl hb, ?_, fun e => ?_⟩) _ _ HLu.out
              · simp; omega
              · have := own_lo HLZ.out.own e; omega
          · obtain rfl : j = f.length := by omega
            clear hLZ hkp bxx hRr
            have z0 := HRR.out.cell (show 0 < 5 by decide)
            have z1 := HRR.out.cell (show 1 < 5 by decide)
            have z2 := HRR.out.cell (show 2 < 5 by decide)
            have z3 := HRR.out.cell (show 3 < 5 by decide)
            have z4 := HRR.out.cell (show 4 < 5 by decide)
            have g0 := HRR.out.frozen 0
            have g1 := HRR.out.frozen 1
            have g2 := HRR.out.frozen 2
            have g3 := HRR.out.frozen 3
            have g4 := HRR.out.frozen 4
            have o0 := HLZ.out.row.cell (show 0 < 5 by decide)
            have o1 := HLZ.out.row.cell (show 1 < 5 by decide)
            have o2 := HLZ.out.row.cell (show 2 < 5 by decide)
            have o3 := HLZ.out.row.cell (show 3 < 5 by decide)
            have o4 := HLZ.out.row.cell (show 4 < 5 by decide)
            simp only [hdAt, Hd.cells, List.getD_cons_succ, List.getD_cons_zero] at z0 z1 z2 z3 z4 o0 o1 o2 o3 o4
            have HKM : Hid (∀ x ∈ ks, x.size ≤ maxLen) := Lib.hid (by have := HH.out; simp only [Lies] at this; exact this.2.1.2.2.2.1)
            go_wp2_with fail
            refine bodyPost_ret (v := .agg #[.int .i64 5, .int .i64 0, .string ByteArray.empty, .slice none 0 0, .slice A' f.length c']) (by simp [results, Try.results113, go_sem, z0, z1, z2, z3, z4]; try rfl) rfl ?_
            refine ⟨⟨5, 0, ByteArray.empty, none, 0, 0, A', f.length, c'⟩, rfl, ?_, res_below HBR.out (by omega)⟩
            rw [putV_F HSI.out HST.out HYL.out]
            exact HLZ.out.doneF (by simp) (HUS.out.trans (List.take_of_length_le (by have := HE6.out; omega))) HKM.out (by simp; unfold maxLen; omega) (by decide) (by omega) (fun b hb hs => res_set (w := w) b (fun e => by
                rcases hs with h | h
                · have := HSb.out b h; omega
                · omega))
      · obtain ⟨hil, h4⟩ := HLT.out.1 hst
        obtain rfl : hk = 4 := h4
        obtain rfl : f = [] := by
          have := hT.c4
          cases f with
          | nil => rfl
          | cons a b => exact absurd ⟨by decide, by simp⟩ this
        obtain rfl : ks = [] := List.length_eq_zero_iff.1 (by have := HE6.out; simpa using this)
        obtain rfl : n = 0 := by
          have := hT.c1
          by_cases e : n = 0
          · exact e
          · exact absurd ⟨by decide, by decide, e⟩ this
        obtain rfl : t = ByteArray.empty := by
          have := hT.c2
          by_cases e : t.size = 0
          · exact empty_of e
          · exact absurd ⟨by decide, e⟩ this
        have hyl := hyL hst
        have HYL := Lib.hid hyl
        have HST := Lib.hid hst
        have HXC := Lib.hid (Nat.le_trans (cnt_sub (k := 4) (n := 0) (t := ByteArray.empty) (l := l) (ks := []) (f := []) (.inl (List.mem_of_getElem? hyl))) HCN.out)
        have HOP := Lib.hid HH.out.op
        have b0 := HBOX9.out.cell (show 0 < 5 by decide)
        simp only [hdAt, Hd.cells, List.getD_cons_succ, List.getD_cons_zero] at b0
        clear hT hyl hyF hyL hst
        go_wp2_with fail
        have hbd := one_alloc w9 (Obj.cells #[.int .i64 4, .int .i64 0, .string { data := #[] }, .slice none 0 0, .slice none 0 0] 25)
        have hrow : (w9.alloc (Obj.cells #[.int .i64 4, .int .i64 0, .string { data := #[] }, .slice none 0 0, .slice none 0 0] 25)).rowIs w9.heap.size 25 5 (hdAt ⟨4, 0, ByteArray.empty, none, 0, 0, none, 0, 0⟩) := hdAt_row (h := ⟨4, 0, ByteArray.empty, none, 0, 0, none, 0, 0⟩) (heap_alloc_new _ _)
        have hszd : (w9.alloc (Obj.cells #[.int .i64 4, .int .i64 0, .string { data := #[] }, .slice none 0 0, .slice none 0 0] 25)).heap.size = w9.heap.size + 1 := by simp
        generalize w9.alloc (Obj.cells #[.int .i64 4, .int .i64 0, .string { data := #[] }, .slice none 0 0, .slice none 0 0] 25) = wz at hbd hrow hszd ⊢
        have HBZ := Lib.hid (HB9.out.trans (hbd.mono (by omega)))
        have HRESZ := Lib.hid (rowIs_below HRES9.out hbd (by omega))
        have HBOXZ := Lib.hid (rowIs_below HBOX9.out hbd (by omega))
        have HBXXZ := Lib.hid (rowIs_below HBXX9.out hbd (by omega))
        have HROW := Lib.hid hrow
        clear hbd hrow b0 HB9 HRES9 HBOX9 HBXX9 r0 r1 r2
        go_loopw [9] (fun iv wr => ∃ (j : Nat) (us : List Hd) (A' : Option Addr) (c' : Nat), iv = .int .i64 j ∧ j ≤ l.length ∧ LoopZL 4 wz w9.heap.size S (l.set i (putV y p x)) j wr us A' c') (fun iv _ => l.length - (intOf iv).toNat)
        case atStart => exact ⟨0, [], none, 0, rfl, Nat.zero_le _, ⟨Kp.refl _ _, HROW.out, World.ownsRow_nil _ _ _ _, rfl, fun j y u _ hu => by simp at hu⟩⟩
        case round =>
          obtain ⟨j, us, A', c', rfl, hj, hLZ⟩ := hrel
          have HLZ := Lib.hid hLZ
          have hkp := HLZ.out.kp
          have cO := HLZ.out.row.cell (show 3 < 5 by decide)
          have fO := HLZ.out.row.frozen 3
          have hOr := HLZ.out.row.lt
          have hszr := HLZ.out.kp.size
          have HRO := Lib.hid (show some w9.heap.size ≠ (Value.slice A' j c').ownBlock from fun e => by have := own_lo HLZ.out.own e.symm; omega)
          have box := rowIs_below' (B := 0) HBOXZ.out (hkp.block w.heap.size (by omega) HBOXZ.out.lt)
          have bxx := rowIs_below' (B := 0) HBXXZ.out (hkp.block (w.heap.size + 1) (by omega) HBXXZ.out.lt)
          have b3 := box.cell (show 3 < 5 by decide)
          have b4 := box.cell (show 4 < 5 by decide)
          have HBR := Lib.hid (show Below w.heap.size w wr from HBZ.out.trans (hkp.bel.mono (by omega)))
          have hRr : wr.rowIs (w.heap.size + 1 + 1) 25 5 zeroRes := rowIs_below' (B := 0) HRESZ.out (hkp.block (w.heap.size + 1 + 1) (by omega) HRESZ.out.lt)
          have HRR := Lib.hid hRr
          simp only [hdAt, Hd.cells, List.getD_cons_succ, List.getD_cons_zero] at cO b3 b4
          by_cases hlt : j < l.length
          · obtain ⟨xx, hxx⟩ : ∃ xx, l[j]? = some xx := ⟨l[j], List.getElem?_eq_getElem hlt⟩
            obtain ⟨ad2, u, hA2, hSad, hab, hLu, hat2⟩ := HOP.out.L j xx hxx
            obtain ⟨k0, k1, k2, k3, k4⟩ := hat2.below HBR.out hab
            obtain rfl : HA = some ad2 := hA2
            have HLu := Lib.hid hLu
            have HXJ := Lib.hid hxx
            by_cases hij : j = i
            · subst hij
              have x0 := bxx.cell (show 0 < 5 by decide)
              have x1 := bxx.cell (show 1 < 5 by decide)
              have x2 := bxx.cell (show 2 < 5 by decide)
              have x3 := bxx.cell (show 3 < 5 by decide)
              have x4 := bxx.cell (show 4 < 5 by decide)
              simp only [hdAt, Hd.cells, List.getD_cons_succ, List.getD_cons_zero] at x0 x1 x2 x3 x4
              clear hLZ hkp hLu hat2 hxx box bxx hRr
              obtain rfl : xx = y := by have h1 := HXJ.out; rw [HYL.out] at h1; injection h1 with h1; exact h1.symm
              go_upto_region 9 with fail
              have hby := one_alloc wr (Obj.cells #[.int .i64 u.k, .int .i64 u.n, .string u.s, .slice u.A u.la u.lc, .slice u.F u.lf u.fc] 25)
              have hyr : (wr.alloc (Obj.cells #[.int .i64 u.k, .int .i64 u.n, .string u.s, .slice u.A u.la u.lc, .slice u.F u.lf u.fc] 25)).rowIs wr.heap.size 25 5 (hdAt u) := hdAt_row (heap_alloc_new _ _)
              have hsy : (wr.alloc (Obj.cells #[.int .i64 u.k, .int .i64 u.n, .string u.s, .slice u.A u.la u.lc, .slice u.F u.lf u.fc] 25)).heap.size = wr.heap.size + 1 := by simp
              generalize wr.alloc (Obj.cells #[.int .i64 u.k, .int .i64 u.n, .string u.s, .slice u.A u.la u.lc, .slice u.F u.lf u.fc] 25) = wy at hby hyr hsy ⊢
              have HBY := Lib.hid hby
              have HBD := Lib.hid (show Below w.heap.size w wy.drew from (HBR.out.trans (hby.mono HBR.out.size)).trans ((Below.refl _ _).drew))
              have HYR := Lib.hid (show ∀ w5, Below wy.drew.heap.size wy.drew w5 → w5.rowIs wr.heap.size 25 5 (hdAt u) from fun w5 hb => rowIs_below hyr.drew hb (show wr.heap.size < wy.heap.size by omega))
              have hN1 : w.heap.size + 1 < wr.heap.size := by omega
              have HS0 : Hid (X5 (w.heap.size + 1) hx wy.drew) := Lib.hid ⟨(hby.cell (p := ⟨w.heap.size + 1, 0, none⟩) hN1).trans x0, (hby.cell (p := ⟨w.heap.size + 1, 1, none⟩) hN1).trans x1, (hby.cell (p := ⟨w.heap.size + 1, 2, none⟩) hN1).trans x2, (hby.cell (p := ⟨w.heap.size + 1, 3, none⟩) hN1).trans x3, (hby.cell (p := ⟨w.heap.size + 1, 4, none⟩) hN1).trans x4⟩
              have HS1 := Lib.hid (show ∀ w5, Below wy.drew.heap.size wy.drew w5 → X5 (w.heap.size + 1) hx w5 from fun w5 hb => X5.blk HS0.out (hb.block _ (show w.heap.size + 1 < wy.heap.size by omega)))
              have HS2 := Lib.hid (show ∀ w5 (v : Hd), Below wy.drew.heap.size wy.drew w5 → X5 (w.heap.size + 1) hx (resW w5 wr.heap.size v) from fun w5 v hb => X5.blk (HS1.out w5 hb) (res_set (w := w) _ (by omega)))
              have hld : ldY = Op.load 25 (Operand.tmp 10) := rfl
              have y0 := hyr.cell (show 0 < 5 by decide)
              have y1 := hyr.cell (show 1 < 5 by decide)
              have y2 := hyr.cell (show 2 < 5 by decide)
              have y3 := hyr.cell (show 3 < 5 by decide)
              have y4 := hyr.cell (show 4 < 5 by decide)
              simp only [hdAt, Hd.cells, List.getD_cons_succ, List.getD_cons_zero] at y0 y1 y2 y3 y4
              have HY := Lib.hid (show (l.set j (putV xx p x))[j]? = some (putV xx p x) from List.getElem?_set_self hlt)
              clear hby hyr x0 x1 x2 x3 x4
              have HCL := Lib.hid (IH.out xx u wy.drew (some ad) 0 0 (fun b hb => by have := HSb.out b hb; show b < wy.heap.size; omega) (HLu.out.below HBD.out (Nat.le_refl _)) (HXX.out.below HBD.out (Nat.le_refl _)) (by have : p = [] := List.length_eq_zero_iff.1 (by have := HPL.out; omega); rw [this]; exact PathAt.nil _ _) (by have := HPL.out; omega) (Nat.le_refl _) HXC.out (RL_mem HRLF.out.1 (List.mem_of_getElem? HXJ.out)) HGY.out)
              go_wp2_with fail
              rw [show Op.load 25 (Operand.tmp 10) = ldY from rfl]
              go_region_held3 (fun w' => w'.cell? ⟨w.heap.size + 1, 0, none⟩ = some (.int .i64 hx.k) ∧ w'.cell? ⟨w.heap.size + 1, 1, none⟩ = some (.int .i64 hx.n) ∧ w'.cell? ⟨w.heap.size + 1, 2, none⟩ = some (.string hx.s) ∧ w'.cell? ⟨w.heap.size + 1, 3, none⟩ = some (.slice hx.A hx.la hx.lc) ∧ w'.cell? ⟨w.heap.size + 1, 4, none⟩ = some (.slice hx.F hx.lf hx.fc))
                (first
                  | (with_reducible exact HS2.out _ _ hb5)
                  | (have h7 := HS1.out _ hb5; with_reducible exact h7)
                  | (have h7 := HS0.out; with_reducible exact h7)
                  | fail)
                (first
                  | (go_at_call 113; refine HCL.out.mono ?_; rintro e w5 ⟨h', rfl, hl5, hb5⟩; have y0 := (HYR.out _ hb5).cell (show 0 < 5 by decide); have yf0 := (HYR.out _ hb5).frozen 0; have y1 := (HYR.out _ hb5).cell (show 1 < 5 by decide); have yf1 := (HYR.out _ hb5).frozen 1; have y2 := (HYR.out _ hb5).cell (show 2 < 5 by decide); have yf2 := (HYR.out _ hb5).frozen 2; have y3 := (HYR.out _ hb5).cell (show 3 < 5 by decide); have yf3 := (HYR.out _ hb5).frozen 3; have y4 := (HYR.out _ hb5).cell (show 4 < 5 by decide); have yf4 := (HYR.out _ hb5).frozen 4; have HL5 := Lib.hid hl5; have HB5 := Lib.hid hb5; clear hl5; simp only [hdAt, Hd.cells, List.getD_cons_succ, List.getD_cons_zero] at y0 y1 y2 y3 y4)
                  | fail)
              all_goals
                clear y0 y1 y2 y3 y4 yf0 yf1 yf2 yf3 yf4
                have hb5w : Below wr.heap.size wr w5 := HBY.out.trans ((show Below wy.heap.size wy w5 from ((Below.refl _ _).drew).trans HB5.out).mono (by omega))
                have hb6 : Below wr.heap.size wr (((((w5.setCell ⟨wr.heap.size, 0, none⟩ (.int .i64 h'.k)).setCell ⟨wr.heap.size, 1, none⟩ (.int .i64 h'.n)).setCell ⟨wr.heap.size, 2, none⟩ (.string h'.s)).setCell ⟨wr.heap.size, 3, none⟩ (.slice h'.A h'.la h'.lc)).setCell ⟨wr.heap.size, 4, none⟩ (.slice h'.F h'.lf h'.fc)) := res_below hb5w (Nat.le_refl _)
                have row6 := resW_row (HYR.out _ HB5.out) (u := h')
                have hs6 : (((((w5.setCell ⟨wr.heap.size, 0, none⟩ (.int .i64 h'.k)).setCell ⟨wr.heap.size, 1, none⟩ (.int .i64 h'.n)).setCell ⟨wr.heap.size, 2, none⟩ (.string h'.s)).setCell ⟨wr.heap.size, 3, none⟩ (.slice h'.A h'.la h'.lc)).setCell ⟨wr.heap.size, 4, none⟩ (.slice h'.F h'.lf h'.fc)).heap.size = w5.heap.size := by simp
                have hk6 : ∀ b, b ≠ wr.heap.size → (((((w5.setCell ⟨wr.heap.size, 0, none⟩ (.int .i64 h'.k)).setCell ⟨wr.heap.size, 1, none⟩ (.int .i64 h'.n)).setCell ⟨wr.heap.size, 2, none⟩ (.string h'.s)).setCell ⟨wr.heap.size, 3, none⟩ (.slice h'.A h'.la h'.lc)).setCell ⟨wr.heap.size, 4, none⟩ (.slice h'.F h'.lf h'.fc)).heap[b]? = w5.heap[b]? := fun b hb => res_set (w := w) b hb
                generalize (((((w5.setCell ⟨wr.heap.size, 0, none⟩ (.int .i64 h'.k)).setCell ⟨wr.heap.size, 1, none⟩ (.int .i64 h'.n)).setCell ⟨wr.heap.size, 2, none⟩ (.string h'.s)).setCell ⟨wr.heap.size, 3, none⟩ (.slice h'.A h'.la h'.lc)).setCell ⟨wr.heap.size, 4, none⟩ (.slice h'.F h'.lf h'.fc)) = w6 at hb6 row6 hs6 hk6 ⊢
                have y0 := row6.cell (show 0 < 5 by decide)
                have y1 := row6.cell (show 1 < 5 by decide)
                have y2 := row6.cell (show 2 < 5 by decide)
                have y3 := row6.cell (show 3 < 5 by decide)
                have y4 := row6.cell (show 4 < 5 by decide)
                simp only [hdAt, Hd.cells, List.getD_cons_succ, List.getD_cons_zero] at y0 y1 y2 y3 y4
                have cO6 := (hb6.cell (p := ⟨w9.heap.size, 3, none⟩) hOr).trans cO
                have fO6 := (hb6.frozen (p := ⟨w9.heap.size, 3, none⟩) hOr).trans fO
                have hO6 : w9.heap.size < w6.heap.size := by have := hb6.size; omega
                have HB6 := Lib.hid hb6
                have HK6 := Lib.hid hk6
                have hs5 : wy.heap.size ≤ w5.heap.size := HB5.out.size
                have HQ := Lib.hid (fun o : Obj => show Below wr.heap.size wr (w6.alloc o) from HB6.out.trans ((one_alloc w6 o).mono HB6.out.size))
                have HS6 := Lib.hid hs6
                have HSY := Lib.hid hsy
                clear hb5w hb6 row6 hk6 hs6 hsy
                go_wp2_with (at_builtin; refine wpList_append_lies _ rfl _ _ 22 rfl wz.heap.size 25 i0 _ 5 80 Try.underlying22 hi0 hz0 hz1 hz2 rfl (by decide) (.slice A' j c') j (us.flatMap Hd.cells) rfl (own_below HLZ.out.own (HQ.out _) (Nat.le_refl _)) ⟨w6.heap.size, 0, none⟩ 1 1 (Hd.cells h') rfl rfl (news_one _ _ rfl) (by simp [Hd.cells, Value.oneCell']) (by decide) (by unfold maxLen; omega) (by omega) (Nat.le_trans HLZ.out.kp.size (HQ.out _).size) _ rfl ?_; intro g cap w3 hown3 hgrow3 hat3 hlt3; have cO3 := cur_gr cO (HQ.out _) hgrow3 HRO.out; have fO3 := cur_grf cO fO (HQ.out _) hgrow3 HRO.out)
                refine ⟨⟨j + 1, us ++ [h'], _, _, by go_num, by omega, HLZ.out.step (by omega) (fun b hb => by have := HSb.out b hb; omega) setc3 HY.out (HQ.out _) ?_ hown3 hgrow3 hat3⟩, by simp [intOf]; omega⟩
                exact liesY HL5.out HSY.out (by have := HS6.out; simp; omega) (by omega) (fun b hb => by have := HSb.out b hb; omega) (fun b hb => own_lo HLZ.out.own hb) (fun b hb hne => by rw [Below.heap_alloc _ _ _ (by have := HS6.out; omega)]; exact HK6.out b hne)
            · have hne : ((j : Int) == (i : Int)) = false := by simp; omega
              have HY := Lib.hid (show (l.set i (putV y p x))[j]? = some xx by rw [List.getElem?_set_ne (by omega)]; exact hxx)
              clear hLZ hkp hLu hat2 hxx box bxx hRr hij
              go_wp2_with (at_builtin; refine wpList_append_lies _ rfl _ _ 22 rfl wz.heap.size 25 i0 _ 5 80 Try.underlying22 hi0 hz0 hz1 hz2 rfl (by decide) (.slice A' j c') j (us.flatMap Hd.cells) rfl (own_below HLZ.out.own (two_allocs wr _ _) (Nat.le_refl _)) ⟨wr.heap.size + 1, 0, none⟩ 1 1 (Hd.cells u) rfl rfl (news_two wr _ _ _) (by simp [Hd.cells, Value.oneCell']) (by decide) (by unfold maxLen; omega) (by omega) (Nat.le_trans HLZ.out.kp.size ((two_allocs wr _ _)).size) _ rfl ?_; intro g cap w3 hown3 hgrow3 hat3 hlt3; have cO3 := cur_gr cO ((two_allocs wr _ _)) hgrow3 HRO.out; have fO3 := cur_grf cO fO ((two_allocs wr _ _)) hgrow3 HRO.out)
              refine ⟨⟨j + 1, us ++ [u], _, _, by go_num, by omega, HLZ.out.step (by omega) (fun b hb => by have := HSb.out b hb; omega) setc3 HY.out (two_allocs wr _ _) ?_ hown3 hgrow3 hat3⟩, by simp [intOf]; omega⟩
              refine Lies.keep (fun q hq hl => (HBR.out.trans ((two_allocs wr _ _).mono HBR.out.size)).cell hl) (fun b hb hl => ⟨.inl hb, ?_, fun e => ?_⟩) _ _ HLu.out
              · simp; omega
              · have := own_lo HLZ.out.own e; omega
          · obtain rfl : j = l.length := by omega
            clear hLZ hkp bxx hRr
            simp only [List.length_nil] at b4
            have HBX := Lib.hid (show wr.cell? ⟨w.heap.size, 4, none⟩ = some (.slice F 0 fc) from b4)
            go_wp2_with fail
            go_loopw [11] (fun iv wr' => iv = .int .i64 0 ∧ wr' = wr) (fun _ _ => 0)
            case atStart => exact ⟨rfl, rfl⟩
            case round =>
              obtain ⟨rfl, rfl⟩ := hrel
              have z0 := HRR.out.cell (show 0 < 5 by decide)
              have z1 := HRR.out.cell (show 1 < 5 by decide)
              have z2 := HRR.out.cell (show 2 < 5 by decide)
              have z3 := HRR.out.cell (show 3 < 5 by decide)
              have z4 := HRR.out.cell (show 4 < 5 by decide)
              have g0 := HRR.out.frozen 0
              have g1 := HRR.out.frozen 1
              have g2 := HRR.out.frozen 2
              have g3 := HRR.out.frozen 3
              have g4 := HRR.out.frozen 4
              have o0 := HLZ.out.row.cell (show 0 < 5 by decide)
              have o1 := HLZ.out.row.cell (show 1 < 5 by decide)
              have o2 := HLZ.out.row.cell (show 2 < 5 by decide)
              have o3 := HLZ.out.row.cell (show 3 < 5 by decide)
              have o4 := HLZ.out.row.cell (show 4 < 5 by decide)
              simp only [hdAt, Hd.cells, List.getD_cons_succ, List.getD_cons_zero] at z0 z1 z2 z3 z4 o0 o1 o2 o3 o4
              go_wp2_with fail
              refine bodyPost_ret (v := .agg #[.int .i64 4, .int .i64 0, .string ByteArray.empty, .slice A' l.length c', .slice none 0 0]) (by simp [results, Try.results113, go_sem, z0, z1, z2, z3, z4]; try rfl) rfl ?_
              refine ⟨⟨4, 0, ByteArray.empty, A', l.length, c', none, 0, 0⟩, rfl, ?_, res_below HBR.out (by omega)⟩
              rw [putV_L HSI.out HST.out HYL.out]
              exact HLZ.out.doneL (by simp) (by simp; unfold maxLen; omega) (by decide) (by omega) (fun b hb hs => res_set (w := w) b (fun e => by
                rcases hs with h | h
                · have := HSb.out b h; omega
                · omega))
    · obtain ⟨k, n, t, l, ks, f⟩ := a
      obtain ⟨bb, hbb⟩ := Option.isSome_iff_exists.1 hgo
      obtain ⟨i, y, hsi, hyL, hyF, hgy⟩ := goV_cons hbb
      have HGY : Hid ((goV y p).isSome = true) := Lib.hid (by rw [hgy]; rfl)
      have IH := Lib.hid (fun (y : Va) (u : Hd) (W : World) (A' : Option Addr) (m' c' : Nat) (h0 : ∀ b, S b → b < W.heap.size) (h1 : Lies W S y u) (h2 : Lies W S x hx) (h3 : PathAt W A' p) (h4 : m' = p.length) (h5 : m' ≤ c') (h6 : y.cnt ≤ 1000) (h8 : y.R (d - 1)) (h7 : (goV y p).isSome = true) => ih y u W A' m' c' (d - 1) h0 h1 h2 h3 (fun t ht => hR t (by simp [ht])) h4 h5 (by omega) h6 h8 h7)
      have HH := Lib.hid H
      have HXX := Lib.hid HX
      simp only [Lies] at H
      obtain ⟨⟨e1, e2, e3, e4, e5, e6⟩, -, -⟩ := H
      obtain ⟨hk, hnn, hss, HA, la, lc, F, lf, fc⟩ := h
      simp only at e1 e4 e5
      subst e1 e4
      have hlf : lf = f.length := e5
      subst hlf
      have HE6 := Lib.hid e6
      have HCN := Lib.hid hcn
      have hll : l.length ≤ 1000 := by have := len_le_cntL l; simp only [Va.cnt] at hcn; omega
      have hfl : f.length ≤ 1000 := by have := len_le_cntL f; simp only [Va.cnt] at hcn; omega
      have HRD := Lib.hid hrd
      have HLT := Lib.hid (subI_lt e6 HSR.out hsi)
      have HSI := Lib.hid hsi
      unfold Hd.val at *
      simp only
      -- the world behind the three blocks
      obtain ⟨wd, hwd⟩ : ∃ wd, wd = ((w.alloc (Obj.cells #[.int .i64 hk, .int .i64 hnn, .string hss, .slice HA l.length lc, .slice F f.length fc] 25)).alloc (Obj.cells #[.int .i64 hx.k, .int .i64 hx.n, .string hx.s, .slice hx.A hx.la hx.lc, .slice hx.F hx.lf hx.fc] 25)).alloc (Obj.cells #[.int .i64 0, .int .i64 0, .string { data := #[] }, .slice none 0 0, .slice none 0 0] 25) := ⟨_, rfl⟩
      have hb2 : Below w.heap.size w wd := by rw [hwd]; exact three_allocs _ _ _ _
      have hsz : wd.heap.size = w.heap.size + 3 := by rw [hwd]; simp
      have hbox : wd.rowIs w.heap.size 25 5 (hdAt ⟨hk, hnn, hss, HA, l.length, lc, F, f.length, fc⟩) := by
        rw [hwd]
        refine hdAt_row ?_
        rw [Below.heap_alloc _ _ _ (by simp; omega), Below.heap_alloc _ _ _ (by simp)]
        exact heap_alloc_new _ _
      have hbxx : wd.rowIs (w.heap.size + 1) 25 5 (hdAt hx) := by
        rw [hwd]
        refine hdAt_row ?_
        rw [Below.heap_alloc _ _ _ (by simp)]
        have h9 := heap_alloc_new (w.alloc (Obj.cells #[.int .i64 hk, .int .i64 hnn, .string hss, .slice HA l.length lc, .slice F f.length fc] 25)) (Obj.cells #[.int .i64 hx.k, .int .i64 hx.n, .string hx.s, .slice hx.A hx.la hx.lc, .slice hx.F hx.lf hx.fc] 25)
        rwa [World.size_alloc] at h9
      have hres : wd.rowIs (w.heap.size + 1 + 1) 25 5 zeroRes := by
        rw [hwd]
        refine hdAt_row (h := zeroHd) ?_
        have h9 := heap_alloc_new ((w.alloc (Obj.cells #[.int .i64 hk, .int .i64 hnn, .string hss, .slice HA l.length lc, .slice F f.length fc] 25)).alloc (Obj.cells #[.int .i64 hx.k, .int .i64 hx.n, .string hx.s, .slice hx.A hx.la hx.lc, .slice hx.F hx.lf hx.fc] 25)) (Obj.cells #[.int .i64 0, .int .i64 0, .string { data := #[] }, .slice none 0 0, .slice none 0 0] 25)
        rwa [World.size_alloc, World.size_alloc] at h9
      have HWD := Lib.hid hwd
      clear hA hR e2 e3 e5 e6 hok e0 hcn hm hm1 ih hgo hbb hwd hSb HX hgy
      go_enter Try.func113, Try.ntmps113
      go_wp2_with fail
      rw [← HWD.out]
      clear HWD
      obtain ⟨q0, q1, q2⟩ := hat.below hb2 hbl
      have hbld : ad.block < wd.heap.size := by omega
      have hNd : w.heap.size < wd.heap.size := by omega
      have b0 := hbox.cell (show 0 < 5 by decide)
      have b1 := hbox.cell (show 1 < 5 by decide)
      have b2 := hbox.cell (show 2 < 5 by decide)
      have b3 := hbox.cell (show 3 < 5 by decide)
      have b4 := hbox.cell (show 4 < 5 by decide)
      simp only [hdAt, Hd.cells, List.getD_cons_succ, List.getD_cons_zero] at b0 b1 b2 b3 b4
      have Q0 : ∀ x : BlwBy wd, x.now.cell? ad = some (.string s.k) := fun x => x.cellA hbld q0
      have Q1 : ∀ x : BlwBy wd, x.now.cell? ⟨ad.block, ad.off + 1, none⟩ = some (.int .i64 s.a) := fun x => x.cellA (a := ⟨ad.block, ad.off + 1, none⟩) hbld q1
      have Q2 : ∀ x : BlwBy wd, x.now.cell? ⟨ad.block, ad.off + 2, none⟩ = some (.bool s.i) := fun x => x.cellA (a := ⟨ad.block, ad.off + 2, none⟩) hbld q2
      have B0 : ∀ x : BlwBy wd, x.now.cell? ⟨w.heap.size, 0, none⟩ = some (.int .i64 hk) := fun x => x.cell hNd b0
      have B1 : ∀ x : BlwBy wd, x.now.cell? ⟨w.heap.size, 1, none⟩ = some (.int .i64 hnn) := fun x => x.cell hNd b1
      have B2 : ∀ x : BlwBy wd, x.now.cell? ⟨w.heap.size, 2, none⟩ = some (.string hss) := fun x => x.cell hNd b2
      have B3 : ∀ x : BlwBy wd, x.now.cell? ⟨w.heap.size, 3, none⟩ = some (.slice HA l.length lc) := fun x => x.cell hNd b3
      have B4 : ∀ x : BlwBy wd, x.now.cell? ⟨w.heap.size, 4, none⟩ = some (.slice F f.length fc) := fun x => x.cell hNd b4
      have HHd := Lib.hid (HH.out.below hb2 (Nat.le_refl _))
      have KM : Hid (∀ x : BlwBy wd, Calls Try.prog 87 #[.agg #[.int .i64 hk, .int .i64 hnn, .string hss, .slice HA l.length lc, .slice F f.length fc], .agg #[.string s.k, .int .i64 s.a, .bool s.i]] x.now fun e w'' => e = .returned (.int .i64 (mI (subI (.mk hk n t l ks f) s))) ∧ ∃ q : BlwBy wd, w'' = q.now) := Lib.hid (fun x => Calls.below_of (next_ref (.mk hk n t l ks f) S ⟨hk, hnn, hss, HA, l.length, lc, F, f.length, fc⟩ x.now s (HHd.out.below x.bel (Nat.le_refl _)) HSR.out HCN.out))
      have HB2 := Lib.hid hb2
      have HRES := Lib.hid hres
      have HBOX := Lib.hid hbox
      have HBXX := Lib.hid hbxx
      clear hb2 hres hbox hbxx b0 b1 b2 b3 b4
      refine wp_quiet_below (by kernel_rfl) (by kernel_rfl) ?_
      repeat (quiet_step (first | (go_at_call 87; exact KM.out _)))
      refine wpQuiet_nil ?_
      intro w9 hw'
      have hb9 : Below wd.heap.size wd w9 := by obtain ⟨⟨wx, hbx⟩, hw''⟩ := hw'; rw [hw'']; exact hbx
      clear hw'
      have HB9 := Lib.hid (HB2.out.trans (hb9.mono (by omega)))
      have hs9 := hb9.size
      have HRES9 := Lib.hid (rowIs_below HRES.out hb9 (by omega))
      have HBOX9 := Lib.hid (rowIs_below HBOX.out hb9 (by omega))
      have HBXX9 := Lib.hid (rowIs_below HBXX.out hb9 (by omega))
      have r0 := (hb9.cell hbld).trans q0
      have r1 := (hb9.cell (p := ⟨ad.block, ad.off + 1, none⟩) hbld).trans q1
      have r2 := (hb9.cell (p := ⟨ad.block, ad.off + 2, none⟩) hbld).trans q2
      have hbl9 : ad.block < w9.heap.size := by omega
      clear Q0 Q1 Q2 B0 B1 B2 B3 B4 KM HRES HBOX HBXX q0 q1 q2 hb9 HHd HB2
      simp only [mI]
      have hci : (0 : Int) ≤ (i : Int) := by omega
      have hR1 := HRD.out
      simp only [Va.R] at hR1
      obtain ⟨-, hT, -, hRL, hRF⟩ := hR1
      have HRLF := Lib.hid (show RL l (d - 1) ∧ RL f (d - 1) from ⟨hRL, hRF⟩)
      clear hRL hRF
      cases hst : s.i
      · obtain ⟨hil, h4⟩ := HLT.out.2 hst
        obtain rfl : hk = 5 := h4
        obtain rfl : l = [] := by
          have := hT.c3
          cases l with
          | nil => rfl
          | cons a b => exact absurd ⟨by decide, by simp⟩ this
        obtain rfl : n = 0 := by
          have := hT.c1
          by_cases e : n = 0
          · exact e
          · exact absurd ⟨by decide, by decide, e⟩ this
        obtain rfl : t = ByteArray.empty := by
          have := hT.c2
          by_cases e : t.size = 0
          · exact empty_of e
          · exact absurd ⟨by decide, e⟩ this
        have hyl := hyF hst
        have HYL := Lib.hid hyl
        have HST := Lib.hid hst
        have HXC := Lib.hid (Nat.le_trans (cnt_sub (k := 5) (n := 0) (t := ByteArray.empty) (l := []) (ks := ks) (f := f) (.inr (List.mem_of_getElem? hyl))) HCN.out)
        have HOP := Lib.hid HH.out.op
        have b0 := HBOX9.out.cell (show 0 < 5 by decide)
        simp only [hdAt, Hd.cells, List.getD_cons_succ, List.getD_cons_zero] at b0
        clear hT hyl hyF hyL hst
        go_wp2_with fail
        have hbd := one_alloc w9 (Obj.cells #[.int .i64 5, .int .i64 0, .string { data := #[] }, .slice none 0 0, .slice none 0 0] 25)
        have hrow : (w9.alloc (Obj.cells #[.int .i64 5, .int .i64 0, .string { data := #[] }, .slice none 0 0, .slice none 0 0] 25)).rowIs w9.heap.size 25 5 (hdAt ⟨5, 0, ByteArray.empty, none, 0, 0, none, 0, 0⟩) := hdAt_row (h := ⟨5, 0, ByteArray.empty, none, 0, 0, none, 0, 0⟩) (heap_alloc_new _ _)
        have hszd : (w9.alloc (Obj.cells #[.int .i64 5, .int .i64 0, .string { data := #[] }, .slice none 0 0, .slice none 0 0] 25)).heap.size = w9.heap.size + 1 := by simp
        generalize w9.alloc (Obj.cells #[.int .i64 5, .int .i64 0, .string { data := #[] }, .slice none 0 0, .slice none 0 0] 25) = wz at hbd hrow hszd ⊢
        have HBZ := Lib.hid (HB9.out.trans (hbd.mono (by omega)))
        have HRESZ := Lib.hid (rowIs_below HRES9.out hbd (by omega))
        have HBOXZ := Lib.hid (rowIs_below HBOX9.out hbd (by omega))
        have HBXXZ := Lib.hid (rowIs_below HBXX9.out hbd (by omega))
        have HROW := Lib.hid hrow
        clear hbd hrow b0 HB9 HRES9 HBOX9 HBXX9 r0 r1 r2
        have b3 := HBOXZ.out.cell (show 3 < 5 by decide)
        simp only [hdAt, Hd.cells, List.getD_cons_succ, List.getD_cons_zero, List.length_nil] at b3
        go_loopw [9] (fun iv wr => iv = .int .i64 0 ∧ wz = wr) (fun _ _ => 0)
        case atStart => exact ⟨rfl, rfl⟩
        case round =>
         obtain ⟨rfl, rfl⟩ := hrel
         go_wp2_with fail
         clear b3
         go_loopw [11] (fun iv wr2 => ∃ (j : Nat) (us : List (ByteArray × Hd)) (A' : Option Addr) (c' : Nat), iv = .int .i64 j ∧ j ≤ f.length ∧ us.map Prod.fst = ks.take j ∧ LoopZF 5 wz w9.heap.size S (f.set i (putV y p x)) j wr2 us A' c') (fun iv _ => f.length - (intOf iv).toNat)
         case atStart => exact ⟨0, [], none, 0, rfl, Nat.zero_le _, by simp, ⟨Kp.refl _ _, HROW.out, World.ownsRow_nil _ _ _ _, rfl, fun j y u _ hu => by simp at hu⟩⟩
         case round =>
          obtain ⟨j, us, A', c', rfl, hj, hus, hLZ⟩ := hrel
          have HUS := Lib.hid hus
          clear hus
          have HLZ := Lib.hid hLZ
          have hkp := HLZ.out.kp
          have cO := HLZ.out.row.cell (show 4 < 5 by decide)
          have fO := HLZ.out.row.frozen 4
          have hOr := HLZ.out.row.lt
          have hszr := HLZ.out.kp.size
          have HRO := Lib.hid (show some w9.heap.size ≠ (Value.slice A' j c').ownBlock from fun e => by have := own_lo HLZ.out.own e.symm; omega)
          have box := rowIs_below' (B := 0) HBOXZ.out (hkp.block w.heap.size (by omega) HBOXZ.out.lt)
          have bxx := rowIs_below' (B := 0) HBXXZ.out (hkp.block (w.heap.size + 1) (by omega) HBXXZ.out.lt)
          have b4 := box.cell (show 4 < 5 by decide)
          have HBR := Lib.hid (show Below w.heap.size w wr from HBZ.out.trans (hkp.bel.mono (by omega)))
          have hRr : wr.rowIs (w.heap.size + 1 + 1) 25 5 zeroRes := rowIs_below' (B := 0) HRESZ.out (hkp.block (w.heap.size + 1 + 1) (by omega) HRESZ.out.lt)
          have HRR := Lib.hid hRr
          simp only [hdAt, Hd.cells, List.getD_cons_succ, List.getD_cons_zero] at cO b4
          by_cases hlt : j < f.length
          · obtain ⟨xx, hxx⟩ : ∃ xx, f[j]? = some xx := ⟨f[j], List.getElem?_eq_getElem hlt⟩
            obtain ⟨ad2, u, key, hA2, hSad, hab, hkj, hkm, hLu, hat2⟩ := HOP.out.K j xx hxx
            obtain ⟨k0, k1, k2, k3, k4, k5⟩ := hat2.below HBR.out hab
            obtain rfl : F = some ad2 := hA2
            have HKJ := Lib.hid hkj
            have HLu := Lib.hid hLu
            have HXJ := Lib.hid hxx
            by_cases hij : j = i
            · subst hij
              have x0 := bxx.cell (show 0 < 5 by decide)
              have x1 := bxx.cell (show 1 < 5 by decide)
              have x2 := bxx.cell (show 2 < 5 by decide)
              have x3 := bxx.cell (show 3 < 5 by decide)
              have x4 := bxx.cell (show 4 < 5 by decide)
              simp only [hdAt, Hd.cells, List.getD_cons_succ, List.getD_cons_zero] at x0 x1 x2 x3 x4
              clear hLZ hkp hLu hat2 hxx box bxx hRr hkj hkm
              obtain rfl : xx = y := by have h1 := HXJ.out; rw [HYL.out] at h1; injection h1 with h1; exact h1.symm
              go_upto_region 16 with fail
              have hby := one_alloc wr (Obj.cells #[.string key, .int .i64 u.k, .int .i64 u.n, .string u.s, .slice u.A u.la u.lc, .slice u.F u.lf u.fc] 36)
              have hyr : (wr.alloc (Obj.cells #[.string key, .int .i64 u.k, .int .i64 u.n, .string u.s, .slice u.A u.la u.lc, .slice u.F u.lf u.fc] 36)).rowIs wr.heap.size 36 6 (prAt (key, u)) := prAt_row (heap_alloc_new _ _)
              have hsy : (wr.alloc (Obj.cells #[.string key, .int .i64 u.k, .int .i64 u.n, .string u.s, .slice u.A u.la u.lc, .slice u.F u.lf u.fc] 36)).heap.size = wr.heap.size + 1 := by simp
              generalize wr.alloc (Obj.cells #[.string key, .int .i64 u.k, .int .i64 u.n, .string u.s, .slice u.A u.la u.lc, .slice u.F u.lf u.fc] 36) = wy at hby hyr hsy ⊢
              have HBY := Lib.hid hby
              have HBD := Lib.hid (show Below w.heap.size w wy.drew from (HBR.out.trans (hby.mono HBR.out.size)).trans ((Below.refl _ _).drew))
              have HYR := Lib.hid (show ∀ w5, Below wy.drew.heap.size wy.drew w5 → w5.rowIs wr.heap.size 36 6 (prAt (key, u)) from fun w5 hb => rowIs_below hyr.drew hb (show wr.heap.size < wy.heap.size by omega))
              have hN1 : w.heap.size + 1 < wr.heap.size := by omega
              have HS0 : Hid (X5 (w.heap.size + 1) hx wy.drew) := Lib.hid ⟨(hby.cell (p := ⟨w.heap.size + 1, 0, none⟩) hN1).trans x0, (hby.cell (p := ⟨w.heap.size + 1, 1, none⟩) hN1).trans x1, (hby.cell (p := ⟨w.heap.size + 1, 2, none⟩) hN1).trans x2, (hby.cell (p := ⟨w.heap.size + 1, 3, none⟩) hN1).trans x3, (hby.cell (p := ⟨w.heap.size + 1, 4, none⟩) hN1).trans x4⟩
              have HS1 := Lib.hid (show ∀ w5, Below wy.drew.heap.size wy.drew w5 → X5 (w.heap.size + 1) hx w5 from fun w5 hb => X5.blk HS0.out (hb.block _ (show w.heap.size + 1 < wy.heap.size by omega)))
              have HS2 := Lib.hid (show ∀ w5 (v : Hd), Below wy.drew.heap.size wy.drew w5 → X5 (w.heap.size + 1) hx (resP w5 wr.heap.size v) from fun w5 v hb => X5.blk (HS1.out w5 hb) (resP_set _ (by omega)))
              have hld : ldQ = Op.load 25 (Operand.tmp 66) := rfl
              have y0 := hyr.cell (show 0 < 6 by decide)
              have y1 := hyr.cell (show 1 < 6 by decide)
              have y2 := hyr.cell (show 2 < 6 by decide)
              have y3 := hyr.cell (show 3 < 6 by decide)
              have y4 := hyr.cell (show 4 < 6 by decide)
              have y5 := hyr.cell (show 5 < 6 by decide)
              simp only [prAt, pcells, Hd.cells, List.getD_cons_succ, List.getD_cons_zero] at y0 y1 y2 y3 y4 y5
              have HY := Lib.hid (show (f.set j (putV xx p x))[j]? = some (putV xx p x) from List.getElem?_set_self hlt)
              clear hby hyr x0 x1 x2 x3 x4
              have HCL := Lib.hid (IH.out xx u wy.drew (some ⟨ad.block, ad.off + 3, none⟩) (m - 1) (c - 1) (fun b hb => by have := HSb.out b hb; show b < wy.heap.size; omega) (HLu.out.below HBD.out (Nat.le_refl _)) (HXX.out.below HBD.out (Nat.le_refl _)) (by have h := HTL.out.below HBD.out (Nat.le_refl _); rwa [add_pos _ (by decide)] at h) (by have := HPL.out; omega) (by omega) HXC.out (RL_mem HRLF.out.2 (List.mem_of_getElem? HXJ.out)) HGY.out)
              go_wp2_with fail
              rw [show Op.load 25 (Operand.tmp 66) = ldQ from rfl]
              go_region_held3 (fun w' => w'.cell? ⟨w.heap.size + 1, 0, none⟩ = some (.int .i64 hx.k) ∧ w'.cell? ⟨w.heap.size + 1, 1, none⟩ = some (.int .i64 hx.n) ∧ w'.cell? ⟨w.heap.size + 1, 2, none⟩ = some (.string hx.s) ∧ w'.cell? ⟨w.heap.size + 1, 3, none⟩ = some (.slice hx.A hx.la hx.lc) ∧ w'.cell? ⟨w.heap.size + 1, 4, none⟩ = some (.slice hx.F hx.lf hx.fc))
                (first
                  | (with_reducible exact HS2.out _ _ hb5)
                  | (have h7 := HS1.out _ hb5; with_reducible exact h7)
                  | (have h7 := HS0.out; with_reducible exact h7)
                  | fail)
                (first
                  | (go_at_call 113; refine HCL.out.mono ?_; rintro e w5 ⟨h', rfl, hl5, hb5⟩; have y1 := (HYR.out _ hb5).cell (show 1 < 6 by decide); have yf1 := (HYR.out _ hb5).frozen 1; have y2 := (HYR.out _ hb5).cell (show 2 < 6 by decide); have yf2 := (HYR.out _ hb5).frozen 2; have y3 := (HYR.out _ hb5).cell (show 3 < 6 by decide); have yf3 := (HYR.out _ hb5).frozen 3; have y4 := (HYR.out _ hb5).cell (show 4 < 6 by decide); have yf4 := (HYR.out _ hb5).frozen 4; have y5 := (HYR.out _ hb5).cell (show 5 < 6 by decide); have yf5 := (HYR.out _ hb5).frozen 5; have y0 := (HYR.out _ hb5).cell (show 0 < 6 by decide); have HL5 := Lib.hid hl5; have HB5 := Lib.hid hb5; clear hl5; simp only [prAt, pcells, Hd.cells, List.getD_cons_succ, List.getD_cons_zero] at y0 y1 y2 y3 y4 y5)
                  | fail)
              all_goals
                clear y0 y1 y2 y3 y4 y5 yf1 yf2 yf3 yf4 yf5
                have hb5w : Below wr.heap.size wr w5 := HBY.out.trans ((show Below wy.heap.size wy w5 from ((Below.refl _ _).drew).trans HB5.out).mono (by omega))
                have hb6 : Below wr.heap.size wr (((((w5.setCell ⟨wr.heap.size, 1, none⟩ (.int .i64 h'.k)).setCell ⟨wr.heap.size, 2, none⟩ (.int .i64 h'.n)).setCell ⟨wr.heap.size, 3, none⟩ (.string h'.s)).setCell ⟨wr.heap.size, 4, none⟩ (.slice h'.A h'.la h'.lc)).setCell ⟨wr.heap.size, 5, none⟩ (.slice h'.F h'.lf h'.fc)) := resP_below hb5w (Nat.le_refl _)
                have row6 : (((((w5.setCell ⟨wr.heap.size, 1, none⟩ (.int .i64 h'.k)).setCell ⟨wr.heap.size, 2, none⟩ (.int .i64 h'.n)).setCell ⟨wr.heap.size, 3, none⟩ (.string h'.s)).setCell ⟨wr.heap.size, 4, none⟩ (.slice h'.A h'.la h'.lc)).setCell ⟨wr.heap.size, 5, none⟩ (.slice h'.F h'.lf h'.fc)).rowIs wr.heap.size 36 6 (prAt (key, h')) := resP_row (HYR.out _ HB5.out)
                have hs6 : (((((w5.setCell ⟨wr.heap.size, 1, none⟩ (.int .i64 h'.k)).setCell ⟨wr.heap.size, 2, none⟩ (.int .i64 h'.n)).setCell ⟨wr.heap.size, 3, none⟩ (.string h'.s)).setCell ⟨wr.heap.size, 4, none⟩ (.slice h'.A h'.la h'.lc)).setCell ⟨wr.heap.size, 5, none⟩ (.slice h'.F h'.lf h'.fc)).heap.size = w5.heap.size := by simp
                have hk6 : ∀ b, b ≠ wr.heap.size → (((((w5.setCell ⟨wr.heap.size, 1, none⟩ (.int .i64 h'.k)).setCell ⟨wr.heap.size, 2, none⟩ (.int .i64 h'.n)).setCell ⟨wr.heap.size, 3, none⟩ (.string h'.s)).setCell ⟨wr.heap.size, 4, none⟩ (.slice h'.A h'.la h'.lc)).setCell ⟨wr.heap.size, 5, none⟩ (.slice h'.F h'.lf h'.fc)).heap[b]? = w5.heap[b]? := fun b hb => resP_set b hb
                generalize (((((w5.setCell ⟨wr.heap.size, 1, none⟩ (.int .i64 h'.k)).setCell ⟨wr.heap.size, 2, none⟩ (.int .i64 h'.n)).setCell ⟨wr.heap.size, 3, none⟩ (.string h'.s)).setCell ⟨wr.heap.size, 4, none⟩ (.slice h'.A h'.la h'.lc)).setCell ⟨wr.heap.size, 5, none⟩ (.slice h'.F h'.lf h'.fc)) = w6 at hb6 row6 hs6 hk6 ⊢
                have y0 := row6.cell (show 0 < 6 by decide)
                have y1 := row6.cell (show 1 < 6 by decide)
                have y2 := row6.cell (show 2 < 6 by decide)
                have y3 := row6.cell (show 3 < 6 by decide)
                have y4 := row6.cell (show 4 < 6 by decide)
                have y5 := row6.cell (show 5 < 6 by decide)
                simp only [prAt, pcells, Hd.cells, List.getD_cons_succ, List.getD_cons_zero] at y0 y1 y2 y3 y4 y5
                have cO6 := (hb6.cell (p := ⟨w9.heap.size, 4, none⟩) hOr).trans cO
                have fO6 := (hb6.frozen (p := ⟨w9.heap.size, 4, none⟩) hOr).trans fO
                have hO6 : w9.heap.size < w6.heap.size := by have := hb6.size; omega
                have HB6 := Lib.hid hb6
                have HK6 := Lib.hid hk6
                have hs5 : wy.heap.size ≤ w5.heap.size := HB5.out.size
                have HQ := Lib.hid (fun o : Obj => show Below wr.heap.size wr (w6.alloc o) from HB6.out.trans ((one_alloc w6 o).mono HB6.out.size))
                have HS6 := Lib.hid hs6
                have HSY := Lib.hid hsy
                clear hb5w hb6 row6 hk6 hs6 hsy
                go_wp2_with (at_builtin; refine wpList_append_lies _ rfl _ _ 23 rfl wz.heap.size 36 i6 _ 6 96 Try.underlying23 hj0 hy0 hy1 hy2 rfl (by decide) (.slice A' j c') j (us.flatMap pcells) rfl (own_below HLZ.out.own (HQ.out _) (Nat.le_refl _)) ⟨w6.heap.size, 0, none⟩ 1 1 (pcells (key, h')) rfl rfl (news_one _ _ rfl) (by simp [pcells, Hd.cells, Value.oneCell']) (by decide) (by unfold maxLen; omega) (by omega) (Nat.le_trans HLZ.out.kp.size (HQ.out _).size) _ rfl ?_; intro g cap w3 hown3 hgrow3 hat3 hlt3; have cO3 := cur_gr cO (HQ.out _) hgrow3 HRO.out; have fO3 := cur_grf cO fO (HQ.out _) hgrow3 HRO.out)
                refine ⟨⟨j + 1, us ++ [(key, h')], _, _, by go_num, by omega, fst_next HUS.out HKJ.out, HLZ.out.step (by omega) (fun b hb => by have := HSb.out b hb; omega) setc4 HY.out (HQ.out _) ?_ hown3 hgrow3 hat3⟩, by simp [intOf]; omega⟩
                exact liesY HL5.out HSY.out (by have := HS6.out; simp; omega) (by omega) (fun b hb => by have := HSb.out b hb; omega) (fun b hb => own_lo HLZ.out.own hb) (fun b hb hne => by rw [Below.heap_alloc _ _ _ (by have := HS6.out; omega)]; exact HK6.out b hne)
            · have hne : ((j : Int) == (i : Int)) = false := by simp; omega
              have HY := Lib.hid (show (f.set i (putV y p x))[j]? = some xx by rw [List.getElem?_set_ne (by omega)]; exact hxx)
              clear hLZ hkp hLu hat2 hxx box bxx hRr hkj hkm hij
              go_wp2_with (at_builtin; refine wpList_append_lies _ rfl _ _ 23 rfl wz.heap.size 36 i6 _ 6 96 Try.underlying23 hj0 hy0 hy1 hy2 rfl (by decide) (.slice A' j c') j (us.flatMap pcells) rfl (own_below HLZ.out.own (two_allocs wr _ _) (Nat.le_refl _)) ⟨wr.heap.size + 1, 0, none⟩ 1 1 (pcells (key, u)) rfl rfl (news_two wr _ _ _) (by simp [pcells, Hd.cells, Value.oneCell']) (by decide) (by unfold maxLen; omega) (by omega) (Nat.le_trans HLZ.out.kp.size ((two_allocs wr _ _)).size) _ rfl ?_; intro g cap w3 hown3 hgrow3 hat3 hlt3; have cO3 := cur_gr cO ((two_allocs wr _ _)) hgrow3 HRO.out; have fO3 := cur_grf cO fO ((two_allocs wr _ _)) hgrow3 HRO.out)
              refine ⟨⟨j + 1, us ++ [(key, u)], _, _, by go_num, by omega, fst_next HUS.out HKJ.out, HLZ.out.step (by omega) (fun b hb => by have := HSb.out b hb; omega) setc4 HY.out (two_allocs wr _ _) ?_ hown3 hgrow3 hat3⟩, by simp [intOf]; omega⟩
              refine Lies.keep (fun q hq hl => (HBR.out.trans ((two_allocs wr _ _).mono HBR.out.size)).cell hl) (fun b hb hl => ⟨.inl hb, ?_, fun e => ?_⟩) _ _ HLu.out
              · simp; omega
              · have := own_lo HLZ.out.own e; omega
          · obtain rfl : j = f.length := by omega
            clear hLZ hkp bxx hRr
            have z0 := HRR.out.cell (show 0 < 5 by decide)
            have z1 := HRR.out.cell (show 1 < 5 by decide)
            have z2 := HRR.out.cell (show 2 < 5 by decide)
            have z3 := HRR.out.cell (show 3 < 5 by decide)
            have z4 := HRR.out.cell (show 4 < 5 by decide)
            have g0 := HRR.out.frozen 0
            have g1 := HRR.out.frozen 1
            have g2 := HRR.out.frozen 2
            have g3 := HRR.out.frozen 3
            have g4 := HRR.out.frozen 4
            have o0 := HLZ.out.row.cell (show 0 < 5 by decide)
            have o1 := HLZ.out.row.cell (show 1 < 5 by decide)
            have o2 := HLZ.out.row.cell (show 2 < 5 by decide)
            have o3 := HLZ.out.row.cell (show 3 < 5 by decide)
            have o4 := HLZ.out.row.cell (show 4 < 5 by decide)
            simp only [hdAt, Hd.cells, List.getD_cons_succ, List.getD_cons_zero] at z0 z1 z2 z3 z4 o0 o1 o2 o3 o4
            have HKM : Hid (∀ x ∈ ks, x.size ≤ maxLen) := Lib.hid (by have := HH.out; simp only [Lies] at this; exact this.2.1.2.2.2.1)
            go_wp2_with fail
            refine bodyPost_ret (v := .agg #[.int .i64 5, .int .i64 0, .string ByteArray.empty, .slice none 0 0, .slice A' f.length c']) (by simp [results, Try.results113, go_sem, z0, z1, z2, z3, z4]; try rfl) rfl ?_
            refine ⟨⟨5, 0, ByteArray.empty, none, 0, 0, A', f.length, c'⟩, rfl, ?_, res_below HBR.out (by omega)⟩
            rw [putV_F HSI.out HST.out HYL.out]
            exact HLZ.out.doneF (by simp) (HUS.out.trans (List.take_of_length_le (by have := HE6.out; omega))) HKM.out (by simp; unfold maxLen; omega) (by decide) (by omega) (fun b hb hs => res_set (w := w) b (fun e => by
                rcases hs with h | h
                · have := HSb.out b h; omega
                · omega))
      · obtain ⟨hil, h4⟩ := HLT.out.1 hst
        obtain rfl : hk = 4 := h4
        obtain rfl : f = [] := by
          have := hT.c4
          cases f with
          | nil => rfl
          | cons a b => exact absurd ⟨by decide, by simp⟩ this
        obtain rfl : ks = [] := List.length_eq_zero_iff.1 (by have := HE6.out; simpa using this)
        obtain rfl : n = 0 := by
          have := hT.c1
          by_cases e : n = 0
          · exact e
          · exact absurd ⟨by decide, by decide, e⟩ this
        obtain rfl : t = ByteArray.empty := by
          have := hT.c2
          by_cases e : t.size = 0
          · exact empty_of e
          · exact absurd ⟨by decide, e⟩ this
        have hyl := hyL hst
        have HYL := Lib.hid hyl
        have HST := Lib.hid hst
        have HXC := Lib.hid (Nat.le_trans (cnt_sub (k := 4) (n := 0) (t := ByteArray.empty) (l := l) (ks := []) (f := []) (.inl (List.mem_of_getElem? hyl))) HCN.out)
        have HOP := Lib.hid HH.out.op
        have b0 := HBOX9.out.cell (show 0 < 5 by decide)
        simp only [hdAt, Hd.cells, List.getD_cons_succ, List.getD_cons_zero] at b0
        clear hT hyl hyF hyL hst
        go_wp2_with fail
        have hbd := one_alloc w9 (Obj.cells #[.int .i64 4, .int .i64 0, .string { data := #[] }, .slice none 0 0, .slice none 0 0] 25)
        have hrow : (w9.alloc (Obj.cells #[.int .i64 4, .int .i64 0, .string { data := #[] }, .slice none 0 0, .slice none 0 0] 25)).rowIs w9.heap.size 25 5 (hdAt ⟨4, 0, ByteArray.empty, none, 0, 0, none, 0, 0⟩) := hdAt_row (h := ⟨4, 0, ByteArray.empty, none, 0, 0, none, 0, 0⟩) (heap_alloc_new _ _)
        have hszd : (w9.alloc (Obj.cells #[.int .i64 4, .int .i64 0, .string { data := #[] }, .slice none 0 0, .slice none 0 0] 25)).heap.size = w9.heap.size + 1 := by simp
        generalize w9.alloc (Obj.cells #[.int .i64 4, .int .i64 0, .string { data := #[] }, .slice none 0 0, .slice none 0 0] 25) = wz at hbd hrow hszd ⊢
        have HBZ := Lib.hid (HB9.out.trans (hbd.mono (by omega)))
        have HRESZ := Lib.hid (rowIs_below HRES9.out hbd (by omega))
        have HBOXZ := Lib.hid (rowIs_below HBOX9.out hbd (by omega))
        have HBXXZ := Lib.hid (rowIs_below HBXX9.out hbd (by omega))
        have HROW := Lib.hid hrow
        clear hbd hrow b0 HB9 HRES9 HBOX9 HBXX9 r0 r1 r2
        go_loopw [9] (fun iv wr => ∃ (j : Nat) (us : List Hd) (A' : Option Addr) (c' : Nat), iv = .int .i64 j ∧ j ≤ l.length ∧ LoopZL 4 wz w9.heap.size S (l.set i (putV y p x)) j wr us A' c') (fun iv _ => l.length - (intOf iv).toNat)
        case atStart => exact ⟨0, [], none, 0, rfl, Nat.zero_le _, ⟨Kp.refl _ _, HROW.out, World.ownsRow_nil _ _ _ _, rfl, fun j y u _ hu => by simp at hu⟩⟩
        case round =>
          obtain ⟨j, us, A', c', rfl, hj, hLZ⟩ := hrel
          have HLZ := Lib.hid hLZ
          have hkp := HLZ.out.kp
          have cO := HLZ.out.row.cell (show 3 < 5 by decide)
          have fO := HLZ.out.row.frozen 3
          have hOr := HLZ.out.row.lt
          have hszr := HLZ.out.kp.size
          have HRO := Lib.hid (show some w9.heap.size ≠ (Value.slice A' j c').ownBlock from fun e => by have := own_lo HLZ.out.own e.symm; omega)
          have box := rowIs_below' (B := 0) HBOXZ.out (hkp.block w.heap.size (by omega) HBOXZ.out.lt)
          have bxx := rowIs_below' (B := 0) HBXXZ.out (hkp.block (w.heap.size + 1) (by omega) HBXXZ.out.lt)
          have b3 := box.cell (show 3 < 5 by decide)
          have b4 := box.cell (show 4 < 5 by decide)
          have HBR := Lib.hid (show Below w.heap.size w wr from HBZ.out.trans (hkp.bel.mono (by omega)))
          have hRr : wr.rowIs (w.heap.size + 1 + 1) 25 5 zeroRes := rowIs_below' (B := 0) HRESZ.out (hkp.block (w.heap.size + 1 + 1) (by omega) HRESZ.out.lt)
          have HRR := Lib.hid hRr
          simp only [hdAt, Hd.cells, List.getD_cons_succ, List.getD_cons_zero] at cO b3 b4
          by_cases hlt : j < l.length
          · obtain ⟨xx, hxx⟩ : ∃ xx, l[j]? = some xx := ⟨l[j], List.getElem?_eq_getElem hlt⟩
            obtain ⟨ad2, u, hA2, hSad, hab, hLu, hat2⟩ := HOP.out.L j xx hxx
            obtain ⟨k0, k1, k2, k3, k4⟩ := hat2.below HBR.out hab
            obtain rfl : HA = some ad2 := hA2
            have HLu := Lib.hid hLu
            have HXJ := Lib.hid hxx
            by_cases hij : j = i
            · subst hij
              have x0 := bxx.cell (show 0 < 5 by decide)
              have x1 := bxx.cell (show 1 < 5 by decide)
              have x2 := bxx.cell (show 2 < 5 by decide)
              have x3 := bxx.cell (show 3 < 5 by decide)
              have x4 := bxx.cell (show 4 < 5 by decide)
              simp only [hdAt, Hd.cells, List.getD_cons_succ, List.getD_cons_zero] at x0 x1 x2 x3 x4
              clear hLZ hkp hLu hat2 hxx box bxx hRr
              obtain rfl : xx = y := by have h1 := HXJ.out; rw [HYL.out] at h1; injection h1 with h1; exact h1.symm
              go_upto_region 9 with fail
              have hby := one_alloc wr (Obj.cells #[.int .i64 u.k, .int .i64 u.n, .string u.s, .slice u.A u.la u.lc, .slice u.F u.lf u.fc] 25)
              have hyr : (wr.alloc (Obj.cells #[.int .i64 u.k, .int .i64 u.n, .string u.s, .slice u.A u.la u.lc, .slice u.F u.lf u.fc] 25)).rowIs wr.heap.size 25 5 (hdAt u) := hdAt_row (heap_alloc_new _ _)
              have hsy : (wr.alloc (Obj.cells #[.int .i64 u.k, .int .i64 u.n, .string u.s, .slice u.A u.la u.lc, .slice u.F u.lf u.fc] 25)).heap.size = wr.heap.size + 1 := by simp
              generalize wr.alloc (Obj.cells #[.int .i64 u.k, .int .i64 u.n, .string u.s, .slice u.A u.la u.lc, .slice u.F u.lf u.fc] 25) = wy at hby hyr hsy ⊢
              have HBY := Lib.hid hby
              have HBD := Lib.hid (show Below w.heap.size w wy.drew from (HBR.out.trans (hby.mono HBR.out.size)).trans ((Below.refl _ _).drew))
              have HYR := Lib.hid (show ∀ w5, Below wy.drew.heap.size wy.drew w5 → w5.rowIs wr.heap.size 25 5 (hdAt u) from fun w5 hb => rowIs_below hyr.drew hb (show wr.heap.size < wy.heap.size by omega))
              have hN1 : w.heap.size + 1 < wr.heap.size := by omega
              have HS0 : Hid (X5 (w.heap.size + 1) hx wy.drew) := Lib.hid ⟨(hby.cell (p := ⟨w.heap.size + 1, 0, none⟩) hN1).trans x0, (hby.cell (p := ⟨w.heap.size + 1, 1, none⟩) hN1).trans x1, (hby.cell (p := ⟨w.heap.size + 1, 2, none⟩) hN1).trans x2, (hby.cell (p := ⟨w.heap.size + 1, 3, none⟩) hN1).trans x3, (hby.cell (p := ⟨w.heap.size + 1, 4, none⟩) hN1).trans x4⟩
              have HS1 := Lib.hid (show ∀ w5, Below wy.drew.heap.size wy.drew w5 → X5 (w.heap.size + 1) hx w5 from fun w5 hb => X5.blk HS0.out (hb.block _ (show w.heap.size + 1 < wy.heap.size by omega)))
              have HS2 := Lib.hid (show ∀ w5 (v : Hd), Below wy.drew.heap.size wy.drew w5 → X5 (w.heap.size + 1) hx (resW w5 wr.heap.size v) from fun w5 v hb => X5.blk (HS1.out w5 hb) (res_set (w := w) _ (by omega)))
              have hld : ldY = Op.load 25 (Operand.tmp 10) := rfl
              have y0 := hyr.cell (show 0 < 5 by decide)
              have y1 := hyr.cell (show 1 < 5 by decide)
              have y2 := hyr.cell (show 2 < 5 by decide)
              have y3 := hyr.cell (show 3 < 5 by decide)
              have y4 := hyr.cell (show 4 < 5 by decide)
              simp only [hdAt, Hd.cells, List.getD_cons_succ, List.getD_cons_zero] at y0 y1 y2 y3 y4
              have HY := Lib.hid (show (l.set j (putV xx p x))[j]? = some (putV xx p x) from List.getElem?_set_self hlt)
              clear hby hyr x0 x1 x2 x3 x4
              have HCL := Lib.hid (IH.out xx u wy.drew (some ⟨ad.block, ad.off + 3, none⟩) (m - 1) (c - 1) (fun b hb => by have := HSb.out b hb; show b < wy.heap.size; omega) (HLu.out.below HBD.out (Nat.le_refl _)) (HXX.out.below HBD.out (Nat.le_refl _)) (by have h := HTL.out.below HBD.out (Nat.le_refl _); rwa [add_pos _ (by decide)] at h) (by have := HPL.out; omega) (by omega) HXC.out (RL_mem HRLF.out.1 (List.mem_of_getElem? HXJ.out)) HGY.out)
              go_wp2_with fail
              rw [show Op.load 25 (Operand.tmp 10) = ldY from rfl]
              go_region_held3 (fun w' => w'.cell? ⟨w.heap.size + 1, 0, none⟩ = some (.int .i64 hx.k) ∧ w'.cell? ⟨w.heap.size + 1, 1, none⟩ = some (.int .i64 hx.n) ∧ w'.cell? ⟨w.heap.size + 1, 2, none⟩ = some (.string hx.s) ∧ w'.cell? ⟨w.heap.size + 1, 3, none⟩ = some (.slice hx.A hx.la hx.lc) ∧ w'.cell? ⟨w.heap.size + 1, 4, none⟩ = some (.slice hx.F hx.lf hx.fc))
                (first
                  | (with_reducible exact HS2.out _ _ hb5)
                  | (have h7 := HS1.out _ hb5; with_reducible exact h7)
                  | (have h7 := HS0.out; with_reducible exact h7)
                  | fail)
                (first
                  | (go_at_call 113; refine HCL.out.mono ?_; rintro e w5 ⟨h', rfl, hl5, hb5⟩; have y0 := (HYR.out _ hb5).cell (show 0 < 5 by decide); have yf0 := (HYR.out _ hb5).frozen 0; have y1 := (HYR.out _ hb5).cell (show 1 < 5 by decide); have yf1 := (HYR.out _ hb5).frozen 1; have y2 := (HYR.out _ hb5).cell (show 2 < 5 by decide); have yf2 := (HYR.out _ hb5).frozen 2; have y3 := (HYR.out _ hb5).cell (show 3 < 5 by decide); have yf3 := (HYR.out _ hb5).frozen 3; have y4 := (HYR.out _ hb5).cell (show 4 < 5 by decide); have yf4 := (HYR.out _ hb5).frozen 4; have HL5 := Lib.hid hl5; have HB5 := Lib.hid hb5; clear hl5; simp only [hdAt, Hd.cells, List.getD_cons_succ, List.getD_cons_zero] at y0 y1 y2 y3 y4)
                  | fail)
              all_goals
                clear y0 y1 y2 y3 y4 yf0 yf1 yf2 yf3 yf4
                have hb5w : Below wr.heap.size wr w5 := HBY.out.trans ((show Below wy.heap.size wy w5 from ((Below.refl _ _).drew).trans HB5.out).mono (by omega))
                have hb6 : Below wr.heap.size wr (((((w5.setCell ⟨wr.heap.size, 0, none⟩ (.int .i64 h'.k)).setCell ⟨wr.heap.size, 1, none⟩ (.int .i64 h'.n)).setCell ⟨wr.heap.size, 2, none⟩ (.string h'.s)).setCell ⟨wr.heap.size, 3, none⟩ (.slice h'.A h'.la h'.lc)).setCell ⟨wr.heap.size, 4, none⟩ (.slice h'.F h'.lf h'.fc)) := res_below hb5w (Nat.le_refl _)
                have row6 := resW_row (HYR.out _ HB5.out) (u := h')
                have hs6 : (((((w5.setCell ⟨wr.heap.size, 0, none⟩ (.int .i64 h'.k)).setCell ⟨wr.heap.size, 1, none⟩ (.int .i64 h'.n)).setCell ⟨wr.heap.size, 2, none⟩ (.string h'.s)).setCell ⟨wr.heap.size, 3, none⟩ (.slice h'.A h'.la h'.lc)).setCell ⟨wr.heap.size, 4, none⟩ (.slice h'.F h'.lf h'.fc)).heap.size = w5.heap.size := by simp
                have hk6 : ∀ b, b ≠ wr.heap.size → (((((w5.setCell ⟨wr.heap.size, 0, none⟩ (.int .i64 h'.k)).setCell ⟨wr.heap.size, 1, none⟩ (.int .i64 h'.n)).setCell ⟨wr.heap.size, 2, none⟩ (.string h'.s)).setCell ⟨wr.heap.size, 3, none⟩ (.slice h'.A h'.la h'.lc)).setCell ⟨wr.heap.size, 4, none⟩ (.slice h'.F h'.lf h'.fc)).heap[b]? = w5.heap[b]? := fun b hb => res_set (w := w) b hb
                generalize (((((w5.setCell ⟨wr.heap.size, 0, none⟩ (.int .i64 h'.k)).setCell ⟨wr.heap.size, 1, none⟩ (.int .i64 h'.n)).setCell ⟨wr.heap.size, 2, none⟩ (.string h'.s)).setCell ⟨wr.heap.size, 3, none⟩ (.slice h'.A h'.la h'.lc)).setCell ⟨wr.heap.size, 4, none⟩ (.slice h'.F h'.lf h'.fc)) = w6 at hb6 row6 hs6 hk6 ⊢
                have y0 := row6.cell (show 0 < 5 by decide)
                have y1 := row6.cell (show 1 < 5 by decide)
                have y2 := row6.cell (show 2 < 5 by decide)
                have y3 := row6.cell (show 3 < 5 by decide)
                have y4 := row6.cell (show 4 < 5 by decide)
                simp only [hdAt, Hd.cells, List.getD_cons_succ, List.getD_cons_zero] at y0 y1 y2 y3 y4
                have cO6 := (hb6.cell (p := ⟨w9.heap.size, 3, none⟩) hOr).trans cO
                have fO6 := (hb6.frozen (p := ⟨w9.heap.size, 3, none⟩) hOr).trans fO
                have hO6 : w9.heap.size < w6.heap.size := by have := hb6.size; omega
                have HB6 := Lib.hid hb6
                have HK6 := Lib.hid hk6
                have hs5 : wy.heap.size ≤ w5.heap.size := HB5.out.size
                have HQ := Lib.hid (fun o : Obj => show Below wr.heap.size wr (w6.alloc o) from HB6.out.trans ((one_alloc w6 o).mono HB6.out.size))
                have HS6 := Lib.hid hs6
                have HSY := Lib.hid hsy
                clear hb5w hb6 row6 hk6 hs6 hsy
                go_wp2_with (at_builtin; refine wpList_append_lies _ rfl _ _ 22 rfl wz.heap.size 25 i0 _ 5 80 Try.underlying22 hi0 hz0 hz1 hz2 rfl (by decide) (.slice A' j c') j (us.flatMap Hd.cells) rfl (own_below HLZ.out.own (HQ.out _) (Nat.le_refl _)) ⟨w6.heap.size, 0, none⟩ 1 1 (Hd.cells h') rfl rfl (news_one _ _ rfl) (by simp [Hd.cells, Value.oneCell']) (by decide) (by unfold maxLen; omega) (by omega) (Nat.le_trans HLZ.out.kp.size (HQ.out _).size) _ rfl ?_; intro g cap w3 hown3 hgrow3 hat3 hlt3; have cO3 := cur_gr cO (HQ.out _) hgrow3 HRO.out; have fO3 := cur_grf cO fO (HQ.out _) hgrow3 HRO.out)
                refine ⟨⟨j + 1, us ++ [h'], _, _, by go_num, by omega, HLZ.out.step (by omega) (fun b hb => by have := HSb.out b hb; omega) setc3 HY.out (HQ.out _) ?_ hown3 hgrow3 hat3⟩, by simp [intOf]; omega⟩
                exact liesY HL5.out HSY.out (by have := HS6.out; simp; omega) (by omega) (fun b hb => by have := HSb.out b hb; omega) (fun b hb => own_lo HLZ.out.own hb) (fun b hb hne => by rw [Below.heap_alloc _ _ _ (by have := HS6.out; omega)]; exact HK6.out b hne)
            · have hne : ((j : Int) == (i : Int)) = false := by simp; omega
              have HY := Lib.hid (show (l.set i (putV y p x))[j]? = some xx by rw [List.getElem?_set_ne (by omega)]; exact hxx)
              clear hLZ hkp hLu hat2 hxx box bxx hRr hij
              go_wp2_with (at_builtin; refine wpList_append_lies _ rfl _ _ 22 rfl wz.heap.size 25 i0 _ 5 80 Try.underlying22 hi0 hz0 hz1 hz2 rfl (by decide) (.slice A' j c') j (us.flatMap Hd.cells) rfl (own_below HLZ.out.own (two_allocs wr _ _) (Nat.le_refl _)) ⟨wr.heap.size + 1, 0, none⟩ 1 1 (Hd.cells u) rfl rfl (news_two wr _ _ _) (by simp [Hd.cells, Value.oneCell']) (by decide) (by unfold maxLen; omega) (by omega) (Nat.le_trans HLZ.out.kp.size ((two_allocs wr _ _)).size) _ rfl ?_; intro g cap w3 hown3 hgrow3 hat3 hlt3; have cO3 := cur_gr cO ((two_allocs wr _ _)) hgrow3 HRO.out; have fO3 := cur_grf cO fO ((two_allocs wr _ _)) hgrow3 HRO.out)
              refine ⟨⟨j + 1, us ++ [u], _, _, by go_num, by omega, HLZ.out.step (by omega) (fun b hb => by have := HSb.out b hb; omega) setc3 HY.out (two_allocs wr _ _) ?_ hown3 hgrow3 hat3⟩, by simp [intOf]; omega⟩
              refine Lies.keep (fun q hq hl => (HBR.out.trans ((two_allocs wr _ _).mono HBR.out.size)).cell hl) (fun b hb hl => ⟨.inl hb, ?_, fun e => ?_⟩) _ _ HLu.out
              · simp; omega
              · have := own_lo HLZ.out.own e; omega
          · obtain rfl : j = l.length := by omega
            clear hLZ hkp bxx hRr
            simp only [List.length_nil] at b4
            have HBX := Lib.hid (show wr.cell? ⟨w.heap.size, 4, none⟩ = some (.slice F 0 fc) from b4)
            go_wp2_with fail
            go_loopw [11] (fun iv wr' => iv = .int .i64 0 ∧ wr' = wr) (fun _ _ => 0)
            case atStart => exact ⟨rfl, rfl⟩
            case round =>
              obtain ⟨rfl, rfl⟩ := hrel
              have z0 := HRR.out.cell (show 0 < 5 by decide)
              have z1 := HRR.out.cell (show 1 < 5 by decide)
              have z2 := HRR.out.cell (show 2 < 5 by decide)
              have z3 := HRR.out.cell (show 3 < 5 by decide)
              have z4 := HRR.out.cell (show 4 < 5 by decide)
              have g0 := HRR.out.frozen 0
              have g1 := HRR.out.frozen 1
              have g2 := HRR.out.frozen 2
              have g3 := HRR.out.frozen 3
              have g4 := HRR.out.frozen 4
              have o0 := HLZ.out.row.cell (show 0 < 5 by decide)
              have o1 := HLZ.out.row.cell (show 1 < 5 by decide)
              have o2 := HLZ.out.row.cell (show 2 < 5 by decide)
              have o3 := HLZ.out.row.cell (show 3 < 5 by decide)
              have o4 := HLZ.out.row.cell (show 4 < 5 by decide)
              simp only [hdAt, Hd.cells, List.getD_cons_succ, List.getD_cons_zero] at z0 z1 z2 z3 z4 o0 o1 o2 o3 o4
              go_wp2_with fail
              refine bodyPost_ret (v := .agg #[.int .i64 4, .int .i64 0, .string ByteArray.empty, .slice A' l.length c', .slice none 0 0]) (by simp [results, Try.results113, go_sem, z0, z1, z2, z3, z4]; try rfl) rfl ?_
              refine ⟨⟨4, 0, ByteArray.empty, A', l.length, c', none, 0, 0⟩, rfl, ?_, res_below HBR.out (by omega)⟩
              rw [putV_L HSI.out HST.out HYL.out]
              exact HLZ.out.doneL (by simp) (by simp; unfold maxLen; omega) (by decide) (by omega) (fun b hb hs => res_set (w := w) b (fun e => by
                rcases hs with h | h
                · have := HSb.out b h; omega
                · omega))
end Go.Proofs.Ytmdlcalnncncjaa

/- The reference's Ordered. -/
set_option linter.unusedVariables false
set_option linter.unusedSimpArgs false
namespace Go.Proofs.Ytmdlcalnncncjaa
open Go.RowKit
def ldF7 : Op := Op.load 23 (Operand.tmp 24)
def ldF12 : Op := Op.load 23 (Operand.tmp 50)
def SO (X : Nat) (sl : Value) (q : Addr) (key : ByteArray) (u : Hd) (w : World) : Prop := w.cell? ⟨X, 4, none⟩ = some sl ∧ At6 w q key u
theorem SO.imp {X : Nat} {sl : Value} {q : Addr} {key : ByteArray} {u : Hd} {w w' : World} (h : SO X sl q key u w) (hX : w'.heap[X]? = w.heap[X]?) (hq : w'.heap[q.block]? = w.heap[q.block]?) : SO X sl q key u w' := by
  obtain ⟨h0, h1, h2, h3, h4, h5, h6⟩ := h
  exact ⟨(World.cell?_of_block (a := ⟨X, 4, none⟩) hX).trans h0, (World.cell?_of_block (a := q) hq).trans h1, (World.cell?_of_block (a := ⟨q.block, q.off + 1, none⟩) hq).trans h2, (World.cell?_of_block (a := ⟨q.block, q.off + 2, none⟩) hq).trans h3, (World.cell?_of_block (a := ⟨q.block, q.off + 3, none⟩) hq).trans h4, (World.cell?_of_block (a := ⟨q.block, q.off + 4, none⟩) hq).trans h5, (World.cell?_of_block (a := ⟨q.block, q.off + 5, none⟩) hq).trans h6⟩
theorem SO.ltX {X : Nat} {sl : Value} {q : Addr} {key : ByteArray} {u : Hd} {w : World} (h : SO X sl q key u w) : X < w.heap.size := World.block_lt_of_cell? w _ h.1
theorem SO.ltq {X : Nat} {sl : Value} {q : Addr} {key : ByteArray} {u : Hd} {w : World} (h : SO X sl q key u w) : q.block < w.heap.size := World.block_lt_of_cell? w _ h.2.1
theorem SO.alloc {X : Nat} {sl : Value} {q : Addr} {key : ByteArray} {u : Hd} {w : World} (h : SO X sl q key u w) (o : Obj) : SO X sl q key u (w.alloc o) := h.imp (Below.heap_alloc _ _ _ h.ltX) (Below.heap_alloc _ _ _ h.ltq)
theorem SO.grown {X : Nat} {sl : Value} {q : Addr} {key : ByteArray} {u : Hd} {w w' : World} {row : Option Nat} (h : SO X sl q key u w) (hg : w.grownBy w' row) (h1 : some X ≠ row) (h2 : some q.block ≠ row) : SO X sl q key u w' := h.imp (hg.block _ h.ltX h1) (hg.block _ h.ltq h2)
theorem SO.set {X W o : Nat} {sl : Value} {q : Addr} {key : ByteArray} {u : Hd} {w : World} (h : SO X sl q key u w) (h1 : X ≠ W) (h2 : q.block ≠ W) (v : Value) : SO X sl q key u (w.setCell ⟨W, o, none⟩ v) := h.imp (Below.heap_setCell _ _ _ _ h1) (Below.heap_setCell _ _ _ _ h2)
/-- A key's place, or -1. -/
def plI (ks : List ByteArray) (key : ByteArray) : Int := match kIdx ks key with
  | some i => (i : Int)
  | none => -1
theorem place_pl {ks : List ByteArray} {key : ByteArray} {n : Int} (h : PlaceP ks key n) : n = plI ks key := by
  unfold plI
  rcases h with ⟨rfl, hi⟩ | ⟨i, rfl, hi, hni⟩
  · rw [kIdx_none.2 hi]
  · cases hk : kIdx ks key with
    | none => exact absurd (List.mem_of_getElem? hi) (kIdx_none.1 hk)
    | some m =>
      obtain ⟨h1, h2⟩ := kIdx_some hk
      have a : ¬ m < i := fun q => hni (List.mem_of_getElem? (i := m) (by rw [List.getElem?_take_of_lt q]; exact h1))
      have b : ¬ i < m := fun q => h2 (List.mem_of_getElem? (i := i) (by rw [List.getElem?_take_of_lt q]; exact hi))
      show (i : Int) = (m : Int)
      omega
theorem plI_neg {ks : List ByteArray} {key : ByteArray} : plI ks key < 0 ↔ key ∉ ks := by
  unfold plI
  cases hk : kIdx ks key with
  | none => simp [kIdx_none.1 hk]
  | some m =>
    have := List.mem_of_getElem? (kIdx_some hk).1
    simp only [this, not_true_eq_false, iff_false]
    omega
/-- The keys of a row of one's own. -/
theorem LoopZ.keys {k0 : Int} {wd wr : World} {O j : Nat} {S : Nat → Prop} {l : List Va} {us : List (ByteArray × Hd)} {A' : Option Addr} {c' : Nat} (H : LoopZF k0 wd O S l j wr us A' c') : KeyRow wr A' (us.map Prod.fst) := by
  intro i key hk
  rw [List.getElem?_map, Option.map_eq_some_iff] at hk
  obtain ⟨⟨key', u⟩, hu, rfl⟩ := hk
  have hi : i < us.length := (List.getElem?_eq_some_iff.1 hu).1
  have own := H.own
  rcases own.2 with ⟨_, h1⟩ | ⟨g, cap, cur, hv, _, hh, hle, hcm, hsz, ht⟩
  · have := H.len; omega
  · have eF : A' = some ⟨g, 0, none⟩ := by injection hv
    refine ⟨⟨g, 0, none⟩, u, eF, ?_, ?_⟩
    · rw [adb]
      exact (Array.getElem?_eq_some_iff.1 hh).1
    · refine At6.of fun d c hc => ?_
      rw [ada]
      exact own.cells (g := g) (by rw [hv]; rfl) (i * 6 + d) c (flat_at pcells 6 us (fun _ _ => rfl) i (key', u) hu d c hc)
theorem at_pl (ks : List ByteArray) (key : ByteArray) (h : Hd) (w : World) (hlf : h.lf = ks.length) (hn : ks.length ≤ 1000) (hA : KeyRow w h.F ks) :
    Calls Try.prog 30 #[h.val, .string key] w fun e w' => e = .returned (.int .i64 (plI ks key)) ∧ Below w.heap.size w w' := (at_ref ks key h w hlf hn hA).mono (by
  rintro e w' ⟨n, rfl, hp, hb⟩
  rw [place_pl hp]
  exact ⟨rfl, hb⟩)
theorem LoopZ.go {α : Type} {fn : α → List Value} {hd : α → Hd} {ty : TypeId} {size : Nat} {rw : Option Addr → Nat → Nat → Hd} {wd wr wq : World} {O j : Nat} {S : Nat → Prop} {l : List Va} {us : List α} {A' : Option Addr} {c' : Nat} (H : LoopZ fn hd ty size rw wd O S l j wr us A' c') (hb : Below wr.heap.size wr wq) (hO : O < wd.heap.size) : LoopZ fn hd ty size rw wd O S l j wq us A' c' := by
  have h1 := H.kp.size
  have h2 := hb.size
  exact ⟨H.kp.trans (Kp.of_below hb (by omega)), rowIs_below H.row hb (by omega), own_below H.own hb (Nat.le_refl _), H.len, fun i y u hy hu => Lies.keep (fun q hq hl => hb.cell hl) (fun b hb2 _ => ⟨hb2.1, by have := hb2.2.1; omega, hb2.2.2⟩) _ _ (H.lies i y u hy hu)⟩
set_option maxHeartbeats 16000000 in
set_option maxRecDepth 100000 in
theorem ordered_ref (keys : List ByteArray) (k n : Int) (s : ByteArray) (ks : List ByteArray) (f : List Va) (S : Nat → Prop) (h : Hd) (w : World) (K : Option Addr) (kc : Nat) (hSb : ∀ b, S b → b < w.heap.size) (H : Lies w S (.mk k n s [] ks f) h) (hcn : (Va.mk k n s [] ks f).cnt ≤ 1000) (hK : Rd w K keys.length (keys.map Value.string)) (hkl : keys.length ≤ 1000) (hkn : keys.Nodup) (hks : ks.Nodup) (hkz : ∀ x ∈ keys, x.size ≤ maxLen) :
    Calls Try.prog 37 #[h.val, .slice K keys.length kc] w fun e w' => RepR S (ordV keys (.mk k n s [] ks f)) w e w' := by
  obtain ⟨i6, hj0, hy0, hy1, hy2⟩ := info_parts info36
  have HSb := Lib.hid hSb
  have HH := Lib.hid H
  have HKR := Lib.hid hK
  have HKN := Lib.hid hkn
  have HKS := Lib.hid hks
  have HKZ := Lib.hid hkz
  have hfl : f.length ≤ 1000 := by have := len_le_cntL f; simp only [Va.cnt] at hcn; omega
  have hop := H.op
  simp only [Lies] at H
  obtain ⟨⟨e1, e2, e3, e4, e5, e6⟩, -, -⟩ := H
  have HE6 := Lib.hid e6
  have HKY := Lib.hid (hop.keys e6)
  have HOP := Lib.hid hop
  obtain ⟨hk, hnn, hss, HA, la, lc, F, lf, fc⟩ := h
  simp only at e1 e4 e5
  have hlf : lf = f.length := e5
  subst hlf
  have E1 := Lib.hid e1
  clear hSb hK hkn hks hkz hop e1 e2 e3 e4 e5 e6
  unfold Hd.val
  simp only
  go_enter Try.func37, Try.ntmps37
  go_wp2_with fail
  have hrow : (((w.alloc (Obj.cells #[.int .i64 hk, .int .i64 hnn, .string hss, .slice HA la lc, .slice F f.length fc] 25)).alloc (Obj.cells #[.int .i64 0, .int .i64 0, .string { data := #[] }, .slice none 0 0, .slice none 0 0] 25)).alloc (Obj.cells #[.int .i64 5, .int .i64 0, .string { data := #[] }, .slice none 0 0, .slice none 0 0] 25)).rowIs (w.heap.size + 1 + 1) 25 5 (hdAt ⟨5, 0, ByteArray.empty, none, 0, 0, none, 0, 0⟩) := hdAt_row (h := ⟨5, 0, ByteArray.empty, none, 0, 0, none, 0, 0⟩) (by have h9 := heap_alloc_new ((w.alloc (Obj.cells #[.int .i64 hk, .int .i64 hnn, .string hss, .slice HA la lc, .slice F f.length fc] 25)).alloc (Obj.cells #[.int .i64 0, .int .i64 0, .string { data := #[] }, .slice none 0 0, .slice none 0 0] 25)) (Obj.cells #[.int .i64 5, .int .i64 0, .string { data := #[] }, .slice none 0 0, .slice none 0 0] 25); rwa [World.size_alloc, World.size_alloc] at h9)
  have hres : (((w.alloc (Obj.cells #[.int .i64 hk, .int .i64 hnn, .string hss, .slice HA la lc, .slice F f.length fc] 25)).alloc (Obj.cells #[.int .i64 0, .int .i64 0, .string { data := #[] }, .slice none 0 0, .slice none 0 0] 25)).alloc (Obj.cells #[.int .i64 5, .int .i64 0, .string { data := #[] }, .slice none 0 0, .slice none 0 0] 25)).rowIs (w.heap.size + 1) 25 5 zeroRes := rowIs_below (B := w.heap.size + 2) (hdAt_row (h := ⟨0, 0, ByteArray.empty, none, 0, 0, none, 0, 0⟩) (by have h9 := heap_alloc_new (w.alloc (Obj.cells #[.int .i64 hk, .int .i64 hnn, .string hss, .slice HA la lc, .slice F f.length fc] 25)) (Obj.cells #[.int .i64 0, .int .i64 0, .string { data := #[] }, .slice none 0 0, .slice none 0 0] 25); rwa [World.size_alloc] at h9)) ((Below.refl _ _).alloc (by simp) _) (by omega)
  have hbox : (((w.alloc (Obj.cells #[.int .i64 hk, .int .i64 hnn, .string hss, .slice HA la lc, .slice F f.length fc] 25)).alloc (Obj.cells #[.int .i64 0, .int .i64 0, .string { data := #[] }, .slice none 0 0, .slice none 0 0] 25)).alloc (Obj.cells #[.int .i64 5, .int .i64 0, .string { data := #[] }, .slice none 0 0, .slice none 0 0] 25)).rowIs w.heap.size 25 5 (hdAt ⟨hk, hnn, hss, HA, la, lc, F, f.length, fc⟩) := rowIs_below (B := w.heap.size + 1) (hdAt_row (h := ⟨hk, hnn, hss, HA, la, lc, F, f.length, fc⟩) (heap_alloc_new w (Obj.cells #[.int .i64 hk, .int .i64 hnn, .string hss, .slice HA la lc, .slice F f.length fc] 25))) (((Below.refl _ _).alloc (by simp) _).alloc (by simp) _) (by omega)
  have hbw := three_allocs w (Obj.cells #[.int .i64 hk, .int .i64 hnn, .string hss, .slice HA la lc, .slice F f.length fc] 25) (Obj.cells #[.int .i64 0, .int .i64 0, .string { data := #[] }, .slice none 0 0, .slice none 0 0] 25) (Obj.cells #[.int .i64 5, .int .i64 0, .string { data := #[] }, .slice none 0 0, .slice none 0 0] 25)
  have hszz : (((w.alloc (Obj.cells #[.int .i64 hk, .int .i64 hnn, .string hss, .slice HA la lc, .slice F f.length fc] 25)).alloc (Obj.cells #[.int .i64 0, .int .i64 0, .string { data := #[] }, .slice none 0 0, .slice none 0 0] 25)).alloc (Obj.cells #[.int .i64 5, .int .i64 0, .string { data := #[] }, .slice none 0 0, .slice none 0 0] 25)).heap.size = w.heap.size + 3 := by simp
  generalize ((w.alloc (Obj.cells #[.int .i64 hk, .int .i64 hnn, .string hss, .slice HA la lc, .slice F f.length fc] 25)).alloc (Obj.cells #[.int .i64 0, .int .i64 0, .string { data := #[] }, .slice none 0 0, .slice none 0 0] 25)).alloc (Obj.cells #[.int .i64 5, .int .i64 0, .string { data := #[] }, .slice none 0 0, .slice none 0 0] 25) = wz at hrow hres hbox hbw hszz ⊢
  have HBZ := Lib.hid hbw
  have HROW := Lib.hid hrow
  have HRES := Lib.hid hres
  have HBOX := Lib.hid hbox
  clear hrow hres hbox hbw
  go_loopw [6] (fun iv wr => ∃ (i j : Nat) (us : List (ByteArray × Hd)) (A' : Option Addr) (c' : Nat), iv = .int .i64 i ∧ i ≤ keys.length ∧ us.map Prod.fst = (o1 keys (ks.zip f) i).map Prod.fst ∧ LoopZF 5 wz (w.heap.size + 1 + 1) S ((ordL keys (ks.zip f)).map Prod.snd) j wr us A' c') (fun iv _ => keys.length - (intOf iv).toNat)
  case atStart => exact ⟨0, 0, [], none, 0, rfl, Nat.zero_le _, by simp [o1_zero], ⟨Kp.refl _ _, HROW.out, World.ownsRow_nil _ _ _ _, rfl, fun j y u _ hu => by simp at hu⟩⟩
  case round =>
    obtain ⟨i, j, us, A', c', rfl, hi, hus, hLZ⟩ := hrel
    have HUS := Lib.hid hus
    have HLZ := Lib.hid hLZ
    clear hus
    have hkp := HLZ.out.kp
    have cO := HLZ.out.row.cell (show 4 < 5 by decide)
    have fO := HLZ.out.row.frozen 4
    have hOr := HLZ.out.row.lt
    have hszr := HLZ.out.kp.size
    have hji : j ≤ i := by
      have h1 := congrArg List.length HUS.out
      rw [List.length_map, List.length_map, HLZ.out.len] at h1
      rw [h1]
      unfold o1
      exact Nat.le_trans (List.length_filterMap_le _ _) (by rw [List.length_take]; omega)
    have HRO := Lib.hid (show some (w.heap.size + 1 + 1) ≠ (Value.slice A' j c').ownBlock from fun e => by have := own_lo HLZ.out.own e.symm; omega)
    have box := rowIs_below' (B := 0) HBOX.out (hkp.block w.heap.size (by omega) HBOX.out.lt)
    have HBR := Lib.hid (show Below w.heap.size w wr from HBZ.out.trans (hkp.bel.mono (by omega)))
    have b0 := box.cell (show 0 < 5 by decide)
    have b1 := box.cell (show 1 < 5 by decide)
    have b2 := box.cell (show 2 < 5 by decide)
    have b3 := box.cell (show 3 < 5 by decide)
    have b4 := box.cell (show 4 < 5 by decide)
    have hNr : w.heap.size < wr.heap.size := by omega
    simp only [hdAt, Hd.cells, List.getD_cons_succ, List.getD_cons_zero] at cO b0 b1 b2 b3 b4
    clear hLZ hkp box
    by_cases hlt : i < keys.length
    · obtain ⟨key, hkey⟩ : ∃ key, keys[i]? = some key := ⟨keys[i], List.getElem?_eq_getElem hlt⟩
      obtain ⟨adK, eK, hbl, hcell⟩ := (HKR.out.below HBR.out (Nat.le_refl _)).2 (by omega)
      have kk := hcell i (.string key) (by rw [List.getElem?_map, hkey]; rfl)
      subst eK
      have hbl2 : (adK.add i).block < wr.heap.size := by rw [adb]; exact hbl
      have HKEY := Lib.hid hkey
      have QK : ∀ x : BlwBy wr, x.now.cell? (adK.add i) = some (.string key) := fun x => x.cellA hbl2 kk
      have B0 : ∀ x : BlwBy wr, x.now.cell? ⟨w.heap.size, 0, none⟩ = some (.int .i64 hk) := fun x => x.cell hNr b0
      have B1 : ∀ x : BlwBy wr, x.now.cell? ⟨w.heap.size, 1, none⟩ = some (.int .i64 hnn) := fun x => x.cell hNr b1
      have B2 : ∀ x : BlwBy wr, x.now.cell? ⟨w.heap.size, 2, none⟩ = some (.string hss) := fun x => x.cell hNr b2
      have B3 : ∀ x : BlwBy wr, x.now.cell? ⟨w.heap.size, 3, none⟩ = some (.slice HA la lc) := fun x => x.cell hNr b3
      have B4 : ∀ x : BlwBy wr, x.now.cell? ⟨w.heap.size, 4, none⟩ = some (.slice F f.length fc) := fun x => x.cell hNr b4
      have KM : Hid (∀ x : BlwBy wr, Calls Try.prog 30 #[.agg #[.int .i64 hk, .int .i64 hnn, .string hss, .slice HA la lc, .slice F f.length fc], .string key] x.now fun e w'' => e = .returned (.int .i64 (plI ks key)) ∧ ∃ q : BlwBy wr, w'' = q.now) := Lib.hid (fun x => Calls.below_of (at_pl ks key ⟨hk, hnn, hss, HA, la, lc, F, f.length, fc⟩ x.now HE6.out.symm (by have := HE6.out; omega) ((HKY.out.below HBR.out (Nat.le_refl _)).below x.bel (Nat.le_refl _))))
      clear hkey hcell
      go_wp2_with fail
      refine wp_quiet_below (by kernel_rfl) (by kernel_rfl) ?_
      repeat (quiet_step (first | (go_at_call 30; exact KM.out _)))
      refine wpQuiet_nil ?_
      intro w9 hw'
      have hb9 : Below wr.heap.size wr w9 := by obtain ⟨⟨wx, hbx⟩, hw''⟩ := hw'; rw [hw'']; exact hbx
      clear hw'
      have HB9 := Lib.hid hb9
      have hs9 := hb9.size
      have HBW := Lib.hid (HBR.out.trans (hb9.mono (by omega)))
      have cO9 := (hb9.cell (p := ⟨w.heap.size + 1 + 1, 4, none⟩) hOr).trans cO
      have fO9 := (hb9.frozen (p := ⟨w.heap.size + 1 + 1, 4, none⟩) hOr).trans fO
      have d4 := (hb9.cell (p := ⟨w.heap.size, 4, none⟩) hNr).trans b4
      have hO9 : w.heap.size + 1 + 1 < w9.heap.size := by omega
      clear QK B0 B1 B2 B3 B4 KM b0 b1 b2 b3 b4 kk hb9
      cases hpi : kIdx ks key with
      | none =>
        have hpl : plI ks key = -1 := by unfold plI; rw [hpi]
        have HNX := Lib.hid (o1_none HKEY.out (fnd_no (f := f) (kIdx_none.1 hpi)))
        rw [hpl]
        clear hpl hpi
        go_wp2_with fail
        refine ⟨⟨i + 1, j, us, A', c', by go_num, by omega, by rw [HNX.out]; exact HUS.out, ?_⟩, by simp [intOf]; omega⟩
        exact HLZ.out.go HB9.out (by omega)
      | some m =>
        have hpl : plI ks key = (m : Int) := by unfold plI; rw [hpi]
        have hkm := (kIdx_some hpi).1
        have hml : m < f.length := by have := (List.getElem?_eq_some_iff.1 hkm).1; have := HE6.out; omega
        obtain ⟨xx, hxx⟩ : ∃ xx, f[m]? = some xx := ⟨f[m], List.getElem?_eq_getElem hml⟩
        obtain ⟨ad2, u, key', hA2, hSad, hab, hkj, hkz, hLu, hat2⟩ := HOP.out.K m xx hxx
        have ekk : key' = key := by rw [hkm] at hkj; injection hkj with hkj; exact hkj.symm
        subst ekk
        obtain ⟨k0, k1, k2, k3, k4, k5⟩ := hat2.below HBW.out hab
        obtain rfl : F = some ad2 := hA2
        have HLu := Lib.hid hLu
        have HNX := Lib.hid (o1_some HKEY.out (fnd_at HKS.out hkm hxx))
        have HY := Lib.hid (show ((ordL keys (ks.zip f)).map Prod.snd)[j]? = some xx by
          have h1 := next_of (by rw [← HNX.out]; exact o1_pre (keys := keys) (ps := ks.zip f) (i + 1))
          have h2 := congrArg List.length HUS.out
          rw [List.length_map, List.length_map, HLZ.out.len] at h2
          rw [← h2] at h1
          rw [List.getElem?_map, h1]
          rfl)
        have hge : ((m : Int) ≥ 0) := by omega
        rw [hpl]
        clear hpl hpi hkm hxx hkj hLu hat2
        have hqS : (ad2.add (m * 6)).block < w.heap.size := hab
        have HSO : Hid (SO w.heap.size (.slice (some ad2) f.length fc) (ad2.add (m * 6)) key' u w9.drew) := Lib.hid ⟨d4, k0, k1, k2, k3, k4, k5⟩
        have HQ := Lib.hid (fun o : Obj => show Below wr.heap.size wr (w9.drew.alloc o) from HB9.out.trans ((((Below.refl _ _).drew).alloc (show w9.heap.size ≤ w9.drew.heap.size from Nat.le_refl _) o).mono hs9))
        have HRC := Lib.hid (show some w.heap.size ≠ (Value.slice A' j c').ownBlock from fun e => by have := own_lo HLZ.out.own e.symm; omega)
        have HRX := Lib.hid (show some (ad2.add (m * 6)).block ≠ (Value.slice A' j c').ownBlock from fun e => by have := own_lo HLZ.out.own e.symm; omega)
        have hCW : w.heap.size ≠ w.heap.size + 1 + 1 := by omega
        have hXW : (ad2.add (m * 6)).block ≠ w.heap.size + 1 + 1 := by omega
        go_wp2_with fail
        have hld : ldF7 = Op.load 23 (Operand.tmp 24) := rfl
        rw [show Op.load 23 (Operand.tmp 24) = ldF7 from rfl]
        go_region_held3 (fun w' => w'.cell? ⟨w.heap.size, 4, none⟩ = some (.slice (some ad2) f.length fc) ∧ w'.cell? (ad2.add (m * 6)) = some (.string key') ∧ w'.cell? ⟨(ad2.add (m * 6)).block, (ad2.add (m * 6)).off + 1, none⟩ = some (.int .i64 u.k) ∧ w'.cell? ⟨(ad2.add (m * 6)).block, (ad2.add (m * 6)).off + 2, none⟩ = some (.int .i64 u.n) ∧ w'.cell? ⟨(ad2.add (m * 6)).block, (ad2.add (m * 6)).off + 3, none⟩ = some (.string u.s) ∧ w'.cell? ⟨(ad2.add (m * 6)).block, (ad2.add (m * 6)).off + 4, none⟩ = some (.slice u.A u.la u.lc) ∧ w'.cell? ⟨(ad2.add (m * 6)).block, (ad2.add (m * 6)).off + 5, none⟩ = some (.slice u.F u.lf u.fc))
          (first
            | go_keep
            | (exact SO.alloc HSO.out _)
            | (exact SO.grown (SO.alloc HSO.out _) hgrow3 HRC.out HRX.out)
            | (exact SO.set (SO.grown (SO.alloc HSO.out _) hgrow3 HRC.out HRX.out) hCW hXW _)
            | skip)
          (first
            | (refine step_append_lies _ (by rfl) _ _ _ (by rfl) wz.heap.size 36 i6 _ 6 96 Try.underlying23 hj0 hy0 hy1 hy2 rfl (by decide) (.slice A' j c') j (us.flatMap pcells) (by rfl) (own_below HLZ.out.own (HQ.out _) (Nat.le_refl _))
                ⟨w9.heap.size, 0, none⟩ 1 1 (pcells (key', u)) (by rfl) (by rfl) (World.news_of_block (heap_alloc_new w9.drew _)) (by simp [pcells, Hd.cells, Value.oneCell']) (by decide) (by unfold maxLen; omega) (by omega) (Nat.le_trans HLZ.out.kp.size (HQ.out _).size) (w9.heap.size + 1) (by simp) ?_; intro g cap w3 hown3 hgrow3 hat3 hlt3; have cO3 := cur_gr cO (HQ.out _) hgrow3 HRO.out; have fO3 := cur_grf cO fO (HQ.out _) hgrow3 HRO.out)
            | fail)
        all_goals go_wp2_with fail
        all_goals
          refine ⟨⟨i + 1, j + 1, us ++ [(key', u)], _, _, by go_num, by omega, by rw [HNX.out, List.map_append, List.map_append, HUS.out]; rfl, HLZ.out.step (by omega) (fun b hb => by have := HSb.out b hb; omega) setc4 HY.out (HQ.out _) ?_ hown3 hgrow3 (hat3.imp_right fun e => e.trans (World.size_alloc _ _).symm)⟩, by simp [intOf]; omega⟩
          refine Lies.keep (fun q hq hl => (HBW.out.trans ((((Below.refl _ _).drew).alloc (show w9.heap.size ≤ w9.drew.heap.size from Nat.le_refl _) _).mono HBW.out.size)).cell hl) (fun b hb hl => ⟨.inl hb, ?_, fun e => ?_⟩) _ _ HLu.out
          · have := HBW.out.size; have h3 : w9.drew.heap.size = w9.heap.size := rfl; simp; omega
          · have := own_lo HLZ.out.own e; omega
    · obtain rfl : i = keys.length := by omega
      have HU0 := Lib.hid (show us.map Prod.fst = (o2 keys (ks.zip f) 0).map Prod.fst from by rw [o2_zero]; exact HUS.out)
      have HI0 := Lib.hid (show j ≤ keys.length from hji)
      clear HUS hszr hOr HRO HBR hNr cO fO b0 b1 b2 b3 hji hi hlt
      go_wp2_with fail
      go_loopw [8] (fun iv wx => ∃ (i j : Nat) (us : List (ByteArray × Hd)) (A' : Option Addr) (c' : Nat), iv = .int .i64 i ∧ i ≤ f.length ∧ us.map Prod.fst = (o2 keys (ks.zip f) i).map Prod.fst ∧ LoopZF 5 wz (w.heap.size + 1 + 1) S ((ordL keys (ks.zip f)).map Prod.snd) j wx us A' c') (fun iv _ => f.length - (intOf iv).toNat)
      case atStart => exact ⟨0, j, us, A', c', rfl, Nat.zero_le _, HU0.out, HLZ.out⟩
      case round =>
        clear HU0 HI0 HLZ b4
        obtain ⟨i, j, us, A', c', rfl, hi, hus, hLZ⟩ := hrel
        have HUS := Lib.hid hus
        have HLZ := Lib.hid hLZ
        clear hus
        have hkp := HLZ.out.kp
        have o0 := HLZ.out.row.cell (show 0 < 5 by decide)
        have o1' := HLZ.out.row.cell (show 1 < 5 by decide)
        have o2' := HLZ.out.row.cell (show 2 < 5 by decide)
        have o3 := HLZ.out.row.cell (show 3 < 5 by decide)
        have cO := HLZ.out.row.cell (show 4 < 5 by decide)
        have fO := HLZ.out.row.frozen 4
        have hOr := HLZ.out.row.lt
        have hszr := HLZ.out.kp.size
        have hju : j = us.length := HLZ.out.len.symm
        have hji : j ≤ 1000 := by
          have h1 := congrArg List.length HUS.out
          rw [List.length_map, List.length_map, HLZ.out.len] at h1
          have h2 := (o2_pre (keys := keys) (ps := ks.zip f) i).length_le
          have h3 := (ordL_perm (keys := keys) (ps := ks.zip f) HKN.out (by rw [List.map_fst_zip (by have := HE6.out; omega)]; exact HKS.out)).length_eq
          have h4 := List.length_zip (l₁ := ks) (l₂ := f)
          omega
        have HRO := Lib.hid (show some (w.heap.size + 1 + 1) ≠ (Value.slice A' j c').ownBlock from fun e => by have := own_lo HLZ.out.own e.symm; omega)
        have box := rowIs_below' (B := 0) HBOX.out (hkp.block w.heap.size (by omega) HBOX.out.lt)
        have HBR := Lib.hid (show Below w.heap.size w wr from HBZ.out.trans (hkp.bel.mono (by omega)))
        have b4 := box.cell (show 4 < 5 by decide)
        have hNr : w.heap.size < wr.heap.size := by omega
        simp only [hdAt, Hd.cells, List.getD_cons_succ, List.getD_cons_zero] at o0 o1' o2' o3 cO b4
        clear hLZ hkp box hju
        by_cases hlt : i < f.length
        · obtain ⟨xx, hxx⟩ : ∃ xx, f[i]? = some xx := ⟨f[i], List.getElem?_eq_getElem hlt⟩
          obtain ⟨ad2, u, key, hA2, hSad, hab, hkj, hkz, hLu, hat2⟩ := HOP.out.K i xx hxx
          obtain ⟨k0, k1, k2, k3, k4, k5⟩ := hat2.below HBR.out hab
          obtain rfl : F = some ad2 := hA2
          have HLu := Lib.hid hLu
          have hpi : (ks.zip f)[i]? = some (key, xx) := List.getElem?_zip_eq_some.2 ⟨hkj, hxx⟩
          have HPI := Lib.hid hpi
          have hbl2 : (ad2.add (i * 6)).block < wr.heap.size := by omega
          have QK : ∀ x : BlwBy wr, x.now.cell? (ad2.add (i * 6)) = some (.string key) := fun x => x.cellA hbl2 k0
          have B0 : ∀ x : BlwBy wr, x.now.cell? ⟨w.heap.size + 1 + 1, 0, none⟩ = some (.int .i64 5) := fun x => x.cell hOr o0
          have B1 : ∀ x : BlwBy wr, x.now.cell? ⟨w.heap.size + 1 + 1, 1, none⟩ = some (.int .i64 0) := fun x => x.cell hOr o1'
          have B2 : ∀ x : BlwBy wr, x.now.cell? ⟨w.heap.size + 1 + 1, 2, none⟩ = some (.string ByteArray.empty) := fun x => x.cell hOr o2'
          have B3 : ∀ x : BlwBy wr, x.now.cell? ⟨w.heap.size + 1 + 1, 3, none⟩ = some (.slice none 0 0) := fun x => x.cell hOr o3
          have B4 : ∀ x : BlwBy wr, x.now.cell? ⟨w.heap.size + 1 + 1, 4, none⟩ = some (.slice A' j c') := fun x => x.cell hOr cO
          have B5 : ∀ x : BlwBy wr, x.now.cell? ⟨w.heap.size, 4, none⟩ = some (.slice (some ad2) f.length fc) := fun x => x.cell hNr b4
          have KM : Hid (∀ x : BlwBy wr, Calls Try.prog 30 #[.agg #[.int .i64 5, .int .i64 0, .string ByteArray.empty, .slice none 0 0, .slice A' j c'], .string key] x.now fun e w'' => e = .returned (.int .i64 (plI (us.map Prod.fst) key)) ∧ ∃ q : BlwBy wr, w'' = q.now) := Lib.hid (fun x => Calls.below_of (at_pl (us.map Prod.fst) key ⟨5, 0, ByteArray.empty, none, 0, 0, A', j, c'⟩ x.now (by simp [HLZ.out.len]) (by simp [HLZ.out.len]; omega) (HLZ.out.keys.below x.bel (Nat.le_refl _))))
          clear hkj hpi
          go_wp2_with fail
          refine wp_quiet_below (by kernel_rfl) (by kernel_rfl) ?_
          repeat (quiet_step (first | (go_at_call 30; exact KM.out _)))
          refine wpQuiet_nil ?_
          intro w9 hw'
          have hb9 : Below wr.heap.size wr w9 := by obtain ⟨⟨wx, hbx⟩, hw''⟩ := hw'; rw [hw'']; exact hbx
          clear hw'
          have HB9 := Lib.hid hb9
          have hs9 := hb9.size
          have HBW := Lib.hid (HBR.out.trans (hb9.mono (by omega)))
          have cO9 := (hb9.cell (p := ⟨w.heap.size + 1 + 1, 4, none⟩) hOr).trans cO
          have fO9 := (hb9.frozen (p := ⟨w.heap.size + 1 + 1, 4, none⟩) hOr).trans fO
          have d4 := (hb9.cell (p := ⟨w.heap.size, 4, none⟩) hNr).trans b4
          have hO9 : w.heap.size + 1 + 1 < w9.heap.size := by omega
          clear QK B0 B1 B2 B3 B4 B5 KM b4 o0 o1' o2' o3 k0 k1 k2 k3 k4 k5 hb9
          by_cases hin : key ∈ keys
          · have hnn2 : ¬ plI (us.map Prod.fst) key < 0 := by
              rw [plI_neg, HUS.out]
              exact fun q => q ((o2_mem (by rw [List.map_fst_zip (by have := HE6.out; omega)]; exact HKS.out) HPI.out).2 hin)
            have hng : 0 ≤ plI (us.map Prod.fst) key := by omega
            have HNX := Lib.hid (o2_in HPI.out hin)
            generalize plI (us.map Prod.fst) key = pn at hnn2 hng ⊢
            clear hin
            go_wp2_with fail
            refine ⟨⟨i + 1, j, us, A', c', by go_num, by omega, by rw [HNX.out]; exact HUS.out, ?_⟩, by simp [intOf]; omega⟩
            exact HLZ.out.go HB9.out (by omega)
          · have hnn2 : plI (us.map Prod.fst) key < 0 := by
              rw [plI_neg, HUS.out]
              exact fun q => hin ((o2_mem (by rw [List.map_fst_zip (by have := HE6.out; omega)]; exact HKS.out) HPI.out).1 q)
            obtain ⟨k0, k1, k2, k3, k4, k5⟩ := hat2.below HBW.out hab
            have HNX := Lib.hid (o2_out HPI.out hin)
            generalize plI (us.map Prod.fst) key = pn at hnn2 ⊢
            have HY := Lib.hid (show ((ordL keys (ks.zip f)).map Prod.snd)[j]? = some xx by
              have h1 := next_of (by rw [← HNX.out]; exact o2_pre (keys := keys) (ps := ks.zip f) (i + 1))
              have h2 := congrArg List.length HUS.out
              rw [List.length_map, List.length_map, HLZ.out.len] at h2
              rw [← h2] at h1
              rw [List.getElem?_map, h1]
              rfl)
            clear hin hLu hat2 hxx
            have hqS : (ad2.add (i * 6)).block < w.heap.size := hab
            have HSO : Hid (SO w.heap.size (.slice (some ad2) f.length fc) (ad2.add (i * 6)) key u w9.drew) := Lib.hid ⟨d4, k0, k1, k2, k3, k4, k5⟩
            have HQ := Lib.hid (fun o : Obj => show Below wr.heap.size wr (w9.drew.alloc o) from HB9.out.trans ((((Below.refl _ _).drew).alloc (show w9.heap.size ≤ w9.drew.heap.size from Nat.le_refl _) o).mono hs9))
            have HRC := Lib.hid (show some w.heap.size ≠ (Value.slice A' j c').ownBlock from fun e => by have := own_lo HLZ.out.own e.symm; omega)
            have HRX := Lib.hid (show some (ad2.add (i * 6)).block ≠ (Value.slice A' j c').ownBlock from fun e => by have := own_lo HLZ.out.own e.symm; omega)
            have hCW : w.heap.size ≠ w.heap.size + 1 + 1 := by omega
            have hXW : (ad2.add (i * 6)).block ≠ w.heap.size + 1 + 1 := by omega
            go_wp2_with fail
            have hld : ldF12 = Op.load 23 (Operand.tmp 50) := rfl
            rw [show Op.load 23 (Operand.tmp 50) = ldF12 from rfl]
            go_region_held3 (fun w' => w'.cell? ⟨w.heap.size, 4, none⟩ = some (.slice (some ad2) f.length fc) ∧ w'.cell? (ad2.add (i * 6)) = some (.string key) ∧ w'.cell? ⟨(ad2.add (i * 6)).block, (ad2.add (i * 6)).off + 1, none⟩ = some (.int .i64 u.k) ∧ w'.cell? ⟨(ad2.add (i * 6)).block, (ad2.add (i * 6)).off + 2, none⟩ = some (.int .i64 u.n) ∧ w'.cell? ⟨(ad2.add (i * 6)).block, (ad2.add (i * 6)).off + 3, none⟩ = some (.string u.s) ∧ w'.cell? ⟨(ad2.add (i * 6)).block, (ad2.add (i * 6)).off + 4, none⟩ = some (.slice u.A u.la u.lc) ∧ w'.cell? ⟨(ad2.add (i * 6)).block, (ad2.add (i * 6)).off + 5, none⟩ = some (.slice u.F u.lf u.fc))
              (first
                | go_keep
                | (exact SO.alloc HSO.out _)
                | (exact SO.grown (SO.alloc HSO.out _) hgrow3 HRC.out HRX.out)
                | (exact SO.set (SO.grown (SO.alloc HSO.out _) hgrow3 HRC.out HRX.out) hCW hXW _)
                | skip)
              (first
                | (refine step_append_lies _ (by rfl) _ _ _ (by rfl) wz.heap.size 36 i6 _ 6 96 Try.underlying23 hj0 hy0 hy1 hy2 rfl (by decide) (.slice A' j c') j (us.flatMap pcells) (by rfl) (own_below HLZ.out.own (HQ.out _) (Nat.le_refl _))
                    ⟨w9.heap.size, 0, none⟩ 1 1 (pcells (key, u)) (by rfl) (by rfl) (World.news_of_block (heap_alloc_new w9.drew _)) (by simp [pcells, Hd.cells, Value.oneCell']) (by decide) (by unfold maxLen; omega) (by omega) (Nat.le_trans HLZ.out.kp.size (HQ.out _).size) (w9.heap.size + 1) (by simp) ?_; intro g cap w3 hown3 hgrow3 hat3 hlt3; have cO3 := cur_gr cO (HQ.out _) hgrow3 HRO.out; have fO3 := cur_grf cO fO (HQ.out _) hgrow3 HRO.out)
                | fail)
            all_goals go_wp2_with fail
            all_goals
              refine ⟨⟨i + 1, j + 1, us ++ [(key, u)], _, _, by go_num, by omega, by rw [HNX.out, List.map_append, List.map_append, HUS.out]; rfl, HLZ.out.step (by omega) (fun b hb => by have := HSb.out b hb; omega) setc4 HY.out (HQ.out _) ?_ hown3 hgrow3 (hat3.imp_right fun e => e.trans (World.size_alloc _ _).symm)⟩, by simp [intOf]; omega⟩
              refine Lies.keep (fun q hq hl => (HBW.out.trans ((((Below.refl _ _).drew).alloc (show w9.heap.size ≤ w9.drew.heap.size from Nat.le_refl _) _).mono HBW.out.size)).cell hl) (fun b hb hl => ⟨.inl hb, ?_, fun e => ?_⟩) _ _ HLu.out
              · have := HBW.out.size; have h3 : w9.drew.heap.size = w9.heap.size := rfl; simp; omega
              · have := own_lo HLZ.out.own e; omega
        · obtain rfl : i = f.length := by omega
          have hRr := rowIs_below' (B := 0) HRES.out (HLZ.out.kp.block (w.heap.size + 1) (by omega) HRES.out.lt)
          have z0 := hRr.cell (show 0 < 5 by decide)
          have z1 := hRr.cell (show 1 < 5 by decide)
          have z2 := hRr.cell (show 2 < 5 by decide)
          have z3 := hRr.cell (show 3 < 5 by decide)
          have z4 := hRr.cell (show 4 < 5 by decide)
          have g0 := hRr.frozen 0
          have g1 := hRr.frozen 1
          have g2 := hRr.frozen 2
          have g3 := hRr.frozen 3
          have g4 := hRr.frozen 4
          simp only [zeroRes, hdAt, Hd.cells, List.getD_cons_succ, List.getD_cons_zero] at z0 z1 z2 z3 z4
          clear hRr
          go_wp2_with fail
          refine bodyPost_ret (v := .agg #[.int .i64 5, .int .i64 0, .string ByteArray.empty, .slice none 0 0, .slice A' j c']) (by simp [results, Try.results37, go_sem, z0, z1, z2, z3, z4]; try rfl) rfl ?_
          have hjl : j = ((ordL keys (ks.zip f)).map Prod.snd).length := by
            have h1 := congrArg List.length HUS.out
            rw [List.length_map, List.length_map, HLZ.out.len] at h1
            rw [h1, List.length_map, ← o2_all, List.length_zip, HE6.out, Nat.min_self]
          have hpl : (ks.zip f).length = f.length := by rw [List.length_zip, HE6.out, Nat.min_self]
          have hus2 : us.map Prod.fst = (ordL keys (ks.zip f)).map Prod.fst := by rw [HUS.out, ← o2_all, hpl]
          have hkm2 : ∀ x ∈ (ordL keys (ks.zip f)).map Prod.fst, x.size ≤ maxLen := fun x hx => by
            have h1 := (ordL_perm (keys := keys) (ps := ks.zip f) HKN.out (by rw [List.map_fst_zip (by have := HE6.out; omega)]; exact HKS.out)).map Prod.fst
            rw [List.map_fst_zip (by have := HE6.out; omega)] at h1
            have h2 := HH.out
            simp only [Lies] at h2
            exact h2.2.1.2.2.2.1 x (h1.mem_iff.1 hx)
          refine ⟨⟨5, 0, ByteArray.empty, none, 0, 0, A', j, c'⟩, rfl, ?_, res_below HBR.out (by omega)⟩
          exact HLZ.out.doneF hjl hus2 hkm2 (by rw [← hjl]; unfold maxLen; omega) (by decide) (by omega) (fun b hb hs => res_set (w := w) b (fun e => by
            rcases hs with h | h
            · have := HSb.out b h; omega
            · omega))
end Go.Proofs.Ytmdlcalnncncjaa

/- Keys: few of them, one of them twice. -/
set_option linter.unusedVariables false
set_option linter.unusedSimpArgs false
namespace Go.Proofs.Ytmdlcalnncncjaa
open Go.RowKit
theorem below_drewQ {B : Nat} {w w1 : World} (h : Below B w w1) (n : Nat) : Below B w (w1.drewN n) := ⟨h.os, h.tape, h.output, h.size, h.block⟩
def TwiceR (keys : List ByteArray) (w : World) (e : Ending) (w' : World) : Prop := ∃ r : Bool, e = .returned (.bool r) ∧ (r = true ↔ ¬ keys.Nodup) ∧ Below w.heap.size w w'
/-- Few keys, and short ones. -/
def FewKs (keys : List ByteArray) (w : World) (e : Ending) (w' : World) : Prop := ∃ r : Bool, e = .returned (.bool r) ∧ (r = true → keys.length ≤ 40 ∧ ∀ x ∈ keys, x.size ≤ 500) ∧ Below w.heap.size w w'
set_option maxHeartbeats 400000 in
theorem few_keys (keys : List ByteArray) (K : Option Addr) (kc : Nat) (w : World) (hm : keys.length ≤ maxLen) (hK : Rd w K keys.length (keys.map Value.string)) :
    Calls Try.prog 34 #[.slice K keys.length kc] w fun e w' => FewKs keys w e w' := by
  unfold maxLen at hm
  have HK := Lib.hid hK
  clear hK
  go_enter Try.func34, Try.ntmps34
  go_wp2_with fail
  go_loopw [3] (fun iv wr => wr = w ∧ ∃ i : Nat, iv = .int .i64 i ∧ i ≤ keys.length ∧ i ≤ 50 ∧ ∀ x ∈ keys.take i, x.size ≤ 500) (fun iv _ => keys.length - (intOf iv).toNat)
  case atStart => exact ⟨rfl, 0, rfl, Nat.zero_le _, Nat.zero_le _, by simp⟩
  case round =>
    obtain ⟨rfl, i, rfl, hi, hi2, ht⟩ := hrel
    have HT := Lib.hid ht
    clear ht
    by_cases h1 : i < keys.length
    · by_cases h2 : i < 50
      · obtain ⟨x, hx⟩ : ∃ x, keys[i]? = some x := ⟨keys[i], List.getElem?_eq_getElem h1⟩
        obtain ⟨ad, eK, hbl, hcell⟩ := HK.out.2 (by omega)
        have q0 := hcell i (.string x) (by rw [List.getElem?_map, hx]; rfl)
        subst eK
        have HX := Lib.hid hx
        clear hx hcell
        by_cases h3 : 500 < x.size
        · go_wp2_with fail
          go_ret
          exact ⟨false, rfl, fun h => (by cases h), Below.refl _ _⟩
        · have HN : Hid (∀ y ∈ keys.take (i + 1), y.size ≤ 500) := Lib.hid (by
            intro t ht
            rw [List.take_add_one, HX.out] at ht
            rcases List.mem_append.1 ht with ht | ht
            · exact HT.out t ht
            · simp at ht; subst ht; omega)
          go_wp2_with fail
          exact ⟨⟨trivial, i + 1, by go_num, by omega, by omega, HN.out⟩, by simp [intOf]; omega⟩
      · have h5 : 40 < keys.length := by omega
        go_wp2_with fail
        go_ret
        exact ⟨_, rfl, fun h => (by simp at h; omega), Below.refl _ _⟩
    · have HN : Hid (∀ x ∈ keys, x.size ≤ 500) := Lib.hid (by have := HT.out; rwa [List.take_of_length_le (by omega)] at this)
      go_wp2_with fail
      go_ret
      exact ⟨_, rfl, fun h => ⟨by simp at h; omega, HN.out⟩, Below.refl _ _⟩
set_option maxHeartbeats 400000 in
set_option maxRecDepth 100000 in
theorem twice_law3 (keys : List ByteArray) (K : Option Addr) (kc : Nat) (w : World) (hn : keys.length ≤ 1048576) (hK : Rd w K keys.length (keys.map Value.string)) :
    Calls Try.prog 36 #[.slice K keys.length kc] w fun e w' => TwiceR keys w e w' := by
  have HK := Lib.hid hK
  clear hK
  go_enter Try.func36, Try.ntmps36
  go_wp2_with fail
  go_loopw [3] (fun iv wr => ∃ i : Nat, iv = .int .i64 i ∧ i ≤ keys.length ∧ (keys.take i).Nodup ∧ Below w.heap.size w wr) (fun iv _ => keys.length - (intOf iv).toNat)
  case atStart => exact ⟨0, rfl, Nat.zero_le _, by simp, Below.refl _ _⟩
  case round =>
    obtain ⟨i, rfl, hi, hnd, hb⟩ := hrel
    have HND := Lib.hid hnd
    have HB := Lib.hid hb
    clear hnd hb
    by_cases hlt : i < keys.length
    · obtain ⟨key, hkey⟩ : ∃ key, keys[i]? = some key := ⟨keys[i], List.getElem?_eq_getElem hlt⟩
      have HKEY := Lib.hid hkey
      clear hkey
      go_wp2_with fail
      go_loopw [4] (fun jv wx => ∃ j : Nat, jv = .int .i64 j ∧ j ≤ i ∧ key ∉ keys.take j ∧ Below w.heap.size w wx) (fun jv _ => i - (intOf jv).toNat)
      case atStart => exact ⟨0, rfl, Nat.zero_le _, by simp, HB.out⟩
      case round =>
        obtain ⟨j, rfl, hj, hnj, hb2⟩ := hrel
        have HNJ := Lib.hid hnj
        have HB2 := Lib.hid hb2
        clear hnj hb2
        by_cases hlj : j < i
        · obtain ⟨k2, hk2⟩ : ∃ k2, keys[j]? = some k2 := ⟨keys[j]'(by omega), List.getElem?_eq_getElem (by omega)⟩
          obtain ⟨ad, eK, hbl, hcell⟩ := (HK.out.below HB2.out (Nat.le_refl _)).2 (by omega)
          have q1 := hcell i (.string key) (by rw [List.getElem?_map, HKEY.out]; rfl)
          have q2 := hcell j (.string k2) (by rw [List.getElem?_map, hk2]; rfl)
          subst eK
          have HK2 := Lib.hid hk2
          clear hk2 hcell
          by_cases he : k2 = key
          · subst he
            have HNO := Lib.hid (not_nodup HKEY.out (List.mem_iff_getElem?.2 ⟨j, by rw [List.getElem?_take_of_lt hlj]; exact HK2.out⟩))
            have hbe := bytes_eq (rfl : k2 = k2)
            go_wp2_with fail
            go_quiet (fail)
            go_wp2_with fail
            go_ret
            exact ⟨true, rfl, ⟨fun _ => HNO.out, fun _ => rfl⟩, below_drewQ HB2.out _⟩
          · have hbe := bytes_ne (show ¬ k2 = key from fun e => he e)
            have HN := Lib.hid (notin_step HNJ.out HK2.out he)
            clear he
            go_wp2_with fail
            go_quiet (fail)
            go_wp2_with fail
            exact ⟨⟨j + 1, by go_num, by omega, HN.out, below_drewQ HB2.out _⟩, by simp [intOf]; omega⟩
        · obtain rfl : j = i := by omega
          have HN := Lib.hid (nodup_take_step HND.out HKEY.out HNJ.out)
          go_wp2_with fail
          exact ⟨⟨j + 1, by go_num, by omega, HN.out, HB2.out⟩, by simp [intOf]; omega⟩
    · have HN : Hid keys.Nodup := Lib.hid (by have := HND.out; rwa [List.take_of_length_le (by omega)] at this)
      go_wp2_with fail
      go_ret
      exact ⟨false, rfl, ⟨fun h => (by cases h), fun h => absurd HN.out h⟩, HB.out⟩
set_option maxHeartbeats 400000 in
set_option maxRecDepth 100000 in
theorem twice_ref6 (keys : List ByteArray) (K : Option Addr) (kc : Nat) (w : World) (hn : keys.length ≤ 1048576) (hK : Rd w K keys.length (keys.map Value.string)) :
    Calls Try.prog 93 #[.slice K keys.length kc] w fun e w' => TwiceR keys w e w' := by
  have HK := Lib.hid hK
  clear hK
  go_enter Try.func93, Try.ntmps93
  go_wp2_with fail
  go_loopw [3] (fun iv wr => ∃ i : Nat, iv = .int .i64 i ∧ i ≤ keys.length ∧ (keys.take i).Nodup ∧ Below w.heap.size w wr) (fun iv _ => keys.length - (intOf iv).toNat)
  case atStart => exact ⟨0, rfl, Nat.zero_le _, by simp, Below.refl _ _⟩
  case round =>
    obtain ⟨i, rfl, hi, hnd, hb⟩ := hrel
    have HND := Lib.hid hnd
    have HB := Lib.hid hb
    clear hnd hb
    by_cases hlt : i < keys.length
    · obtain ⟨key, hkey⟩ : ∃ key, keys[i]? = some key := ⟨keys[i], List.getElem?_eq_getElem hlt⟩
      have HKEY := Lib.hid hkey
      clear hkey
      go_wp2_with fail
      go_loopw [4] (fun jv wx => ∃ j : Nat, jv = .int .i64 j ∧ j ≤ i ∧ key ∉ keys.take j ∧ Below w.heap.size w wx) (fun jv _ => i - (intOf jv).toNat)
      case atStart => exact ⟨0, rfl, Nat.zero_le _, by simp, HB.out⟩
      case round =>
        obtain ⟨j, rfl, hj, hnj, hb2⟩ := hrel
        have HNJ := Lib.hid hnj
        have HB2 := Lib.hid hb2
        clear hnj hb2
        by_cases hlj : j < i
        · obtain ⟨k2, hk2⟩ : ∃ k2, keys[j]? = some k2 := ⟨keys[j]'(by omega), List.getElem?_eq_getElem (by omega)⟩
          obtain ⟨ad, eK, hbl, hcell⟩ := (HK.out.below HB2.out (Nat.le_refl _)).2 (by omega)
          have q1 := hcell i (.string key) (by rw [List.getElem?_map, HKEY.out]; rfl)
          have q2 := hcell j (.string k2) (by rw [List.getElem?_map, hk2]; rfl)
          subst eK
          have HK2 := Lib.hid hk2
          clear hk2 hcell
          by_cases he : k2 = key
          · subst he
            have HNO := Lib.hid (not_nodup HKEY.out (List.mem_iff_getElem?.2 ⟨j, by rw [List.getElem?_take_of_lt hlj]; exact HK2.out⟩))
            have hbe := bytes_eq (rfl : k2 = k2)
            go_wp2_with fail
            go_quiet (fail)
            go_wp2_with fail
            go_ret
            exact ⟨true, rfl, ⟨fun _ => HNO.out, fun _ => rfl⟩, below_drewQ HB2.out _⟩
          · have hbe := bytes_ne (show ¬ key = k2 from fun e => he e.symm)
            have HN := Lib.hid (notin_step HNJ.out HK2.out he)
            clear he
            go_wp2_with fail
            go_quiet (fail)
            go_wp2_with fail
            exact ⟨⟨j + 1, by go_num, by omega, HN.out, below_drewQ HB2.out _⟩, by simp [intOf]; omega⟩
        · obtain rfl : j = i := by omega
          have HN := Lib.hid (nodup_take_step HND.out HKEY.out HNJ.out)
          go_wp2_with fail
          exact ⟨⟨j + 1, by go_num, by omega, HN.out, HB2.out⟩, by simp [intOf]; omega⟩
    · have HN : Hid keys.Nodup := Lib.hid (by have := HND.out; rwa [List.take_of_length_le (by omega)] at this)
      go_wp2_with fail
      go_ret
      exact ⟨false, rfl, ⟨fun h => (by cases h), fun h => absurd HN.out h⟩, HB.out⟩
end Go.Proofs.Ytmdlcalnncncjaa

/- What the law's spoil writes lies in the value's own blocks. -/
set_option linter.unusedVariables false
set_option linter.unusedSimpArgs false
namespace Go.Proofs.Ytmdlcalnncncjaa
open Go.RowKit
theorem add0' (g n : Nat) : (⟨g, 0, none⟩ : Addr).add n = ⟨g, n, none⟩ := by
  unfold Addr.add
  by_cases h : n = 0 <;> simp [h]
/-- All is kept but the blocks T. -/
structure OutK (T : Nat → Prop) (w w' : World) : Prop where
  os : w'.os = w.os
  tape : w'.tape = w.tape
  output : w'.output = w.output
  size : w.heap.size ≤ w'.heap.size
  block : ∀ b, b < w.heap.size → ¬ T b → w'.heap[b]? = w.heap[b]?
theorem OutK.refl (T : Nat → Prop) (w : World) : OutK T w w := ⟨rfl, rfl, rfl, Nat.le_refl _, fun _ _ _ => rfl⟩
theorem OutK.trans {T : Nat → Prop} {a b c : World} (h : OutK T a b) (k : OutK T b c) : OutK T a c :=
  ⟨k.os.trans h.os, k.tape.trans h.tape, k.output.trans h.output, Nat.le_trans h.size k.size, fun x h1 h2 => (k.block x (Nat.lt_of_lt_of_le h1 h.size) h2).trans (h.block x h1 h2)⟩
theorem OutK.mono {T T' : Nat → Prop} {a b : World} (h : OutK T a b) (hT : ∀ x, T x → T' x) : OutK T' a b := ⟨h.os, h.tape, h.output, h.size, fun x h1 h2 => h.block x h1 (fun q => h2 (hT x q))⟩
theorem OutK.of_below {T : Nat → Prop} {w w' : World} (h : Below w.heap.size w w') : OutK T w w' := ⟨h.os, h.tape, h.output, h.size, fun b hb _ => h.block b hb⟩
theorem OutK.set {T : Nat → Prop} {a w : World} (h : OutK T a w) {g o : Nat} (hg : T g) (v : Value) : OutK T a (w.setCell ⟨g, o, none⟩ v) :=
  ⟨h.os, h.tape, h.output, by rw [World.size_setCell]; exact h.size, fun b h1 h2 => by rw [Below.heap_setCell _ _ _ _ (fun e => h2 (by have e' : b = g := e; rw [e']; exact hg))]; exact h.block b h1 h2⟩
/-- What is still whole: the elements from i on, the pairs from j on. -/
structure Sp (T : Nat → Prop) (w : World) (h : Hd) (l : List Va) (ks : List ByteArray) (f : List Va) (us vs : List Hd) (SL SF : Nat → Nat → Prop) (i j : Nat) (wr : World) : Prop where
  ok : OutK T w wr
  box : Bx wr w.heap.size h
  cl : ∀ (p : Nat) u, i ≤ p → us[p]? = some u → ∃ g, h.A = some ⟨g, 0, none⟩ ∧ T g ∧ (∀ q, ¬ SL q g) ∧ (∀ q, ¬ SF q g) ∧ (∀ (d : Nat) c, u.cells[d]? = some c → wr.cell? ⟨g, p * 5 + d, none⟩ = some c) ∧ ∀ o, wr.frozen? ⟨g, o, none⟩ = false
  kl : ∀ (p : Nat) x u, i ≤ p → l[p]? = some x → us[p]? = some u → Own wr x (SL p) u
  cf : ∀ (p : Nat) key u, j ≤ p → ks[p]? = some key → vs[p]? = some u → ∃ g, h.F = some ⟨g, 0, none⟩ ∧ T g ∧ (∀ q, ¬ SL q g) ∧ (∀ q, ¬ SF q g) ∧ h.A ≠ some ⟨g, 0, none⟩ ∧ (∀ (d : Nat) c, (pcells (key, u))[d]? = some c → wr.cell? ⟨g, p * 6 + d, none⟩ = some c) ∧ ∀ o, wr.frozen? ⟨g, o, none⟩ = false
  kf : ∀ (p : Nat) x u, j ≤ p → f[p]? = some x → vs[p]? = some u → Own wr x (SF p) u
theorem Sp.start {T : Nat → Prop} {w w0 : World} {k n : Int} {s : ByteArray} {l : List Va} {ks : List ByteArray} {f : List Va} {h : Hd} (H : Own w (.mk k n s l ks f) T h) (hT : ∀ b, T b → b < w.heap.size) (hb : Below w.heap.size w w0) (hbx : Bx w0 w.heap.size h) :
    ∃ us vs SL SF, us.length = l.length ∧ vs.length = f.length ∧ (∀ q b, SL q b → T b) ∧ (∀ q b, SF q b → T b) ∧ (∀ p q b, SL p b → SL q b → p = q) ∧ (∀ p q b, SF p b → SF q b → p = q) ∧ (∀ p q b, SL p b → SF q b → False) ∧ Sp T w h l ks f us vs SL SF 0 0 w0 := by
  cases H with
  | mk us vs SL SF hd ul vl rl rf hl hf bl bf sl sf dl df dd =>
    have e4 := hd.1.2.2.2.1
    have e5 := hd.1.2.2.2.2.1
    have blk : ∀ b, T b → w0.heap[b]? = w.heap[b]? := fun b hb' => hb.block b (hT b hb')
    refine ⟨us, vs, SL, SF, ul, vl, sl, sf, dl, df, dd, OutK.of_below hb, hbx, ?_, fun p x u _ hx hu => Own.keep _ _ _ (hl p x u hx hu) fun b hb' => blk b (sl p b hb'), ?_, fun p x u _ hx hu => Own.keep _ _ _ (hf p x u hx hu) fun b hb' => blk b (sf p b hb')⟩
    · intro p u _ hu
      have hp : p < us.length := (List.getElem?_eq_some_iff.1 hu).1
      rcases rl.2 with ⟨_, h0⟩ | ⟨g, cap, cur, hv, _, hh, hle, _, hsz, ht⟩
      · omega
      · have eA : h.A = some ⟨g, 0, none⟩ := by injection hv
        have bg := bl g (by rw [eA]; rfl)
        have hh0 : w0.heap[g]? = some (.cells cur 25 (0, 0)) := (blk g bg.1).trans hh
        refine ⟨g, eA, bg.1, bg.2.1, bg.2.2, fun d c hc => ?_, fun o => by simp [World.frozen?, hh0]⟩
        have := rl.cells (g := g) (by rw [hv]; rfl) (p * 5 + d) c (flat_at Hd.cells 5 us (fun _ _ => rfl) p u hu d c hc)
        rw [add0'] at this
        rw [World.cell?_of_block (a := ⟨g, p * 5 + d, none⟩) (blk g bg.1)]
        exact this
    · intro p key u _ hk hu
      have hp : p < vs.length := (List.getElem?_eq_some_iff.1 hu).1
      rcases rf.2 with ⟨_, h0⟩ | ⟨g, cap, cur, hv, _, hh, hle, _, hsz, ht⟩
      · omega
      · have eF : h.F = some ⟨g, 0, none⟩ := by injection hv
        have bg := bf g (by rw [eF]; rfl)
        have hh0 : w0.heap[g]? = some (.cells cur 36 (0, 0)) := (blk g bg.1).trans hh
        refine ⟨g, eF, bg.1, bg.2.1, bg.2.2.1, fun e => bg.2.2.2 (by rw [e]; rfl), fun d c hc => ?_, fun o => by simp [World.frozen?, hh0]⟩
        have := rf.cells (g := g) (by rw [hv]; rfl) (p * 6 + d) c (flat_at pcells 6 (ks.zip vs) (fun _ _ => rfl) p (key, u) (List.getElem?_zip_eq_some.2 ⟨hk, hu⟩) d c hc)
        rw [add0'] at this
        rw [World.cell?_of_block (a := ⟨g, p * 6 + d, none⟩) (blk g bg.1)]
        exact this
/-- An element spoilt. -/
abbrev bad5 (w : World) (g o : Nat) : World := ((((w.setCell ⟨g, o, none⟩ (.int .i64 9)).setCell ⟨g, o + 1, none⟩ (.int .i64 0)).setCell ⟨g, o + 2, none⟩ (.string { data := #[] })).setCell ⟨g, o + 3, none⟩ (.slice none 0 0)).setCell ⟨g, o + 4, none⟩ (.slice none 0 0)
/-- A pair spoilt. -/
abbrev bad6 (w : World) (g o : Nat) : World := (((((w.setCell ⟨g, o, none⟩ (.string { data := #[115, 112, 111, 105, 108, 116] })).setCell ⟨g, o + 1, none⟩ (.int .i64 0)).setCell ⟨g, o + 2, none⟩ (.int .i64 0)).setCell ⟨g, o + 3, none⟩ (.string { data := #[] })).setCell ⟨g, o + 4, none⟩ (.slice none 0 0)).setCell ⟨g, o + 5, none⟩ (.slice none 0 0)
theorem bad5_blk {w : World} {g o b : Nat} (h : b ≠ g) : (bad5 w g o).heap[b]? = w.heap[b]? := by
  unfold bad5
  rw [Below.heap_setCell _ _ _ _ h, Below.heap_setCell _ _ _ _ h, Below.heap_setCell _ _ _ _ h, Below.heap_setCell _ _ _ _ h, Below.heap_setCell _ _ _ _ h]
theorem bad6_blk {w : World} {g o b : Nat} (h : b ≠ g) : (bad6 w g o).heap[b]? = w.heap[b]? := by
  unfold bad6
  rw [Below.heap_setCell _ _ _ _ h, Below.heap_setCell _ _ _ _ h, Below.heap_setCell _ _ _ _ h, Below.heap_setCell _ _ _ _ h, Below.heap_setCell _ _ _ _ h, Below.heap_setCell _ _ _ _ h]
theorem bad5_far {w : World} {g o p : Nat} (h : o + 4 < p) : (bad5 w g o).cell? ⟨g, p, none⟩ = w.cell? ⟨g, p, none⟩ := by
  have hne : ∀ q, q ≤ 4 → (⟨g, o + q, none⟩ : Addr) ≠ ⟨g, p, none⟩ := fun q h2 e => by injection e with _ e2; omega
  unfold bad5
  rw [World.cell?_setCell_other _ _ _ _ (hne 4 (by omega)), World.cell?_setCell_other _ _ _ _ (hne 3 (by omega)), World.cell?_setCell_other _ _ _ _ (hne 2 (by omega)), World.cell?_setCell_other _ _ _ _ (hne 1 (by omega)), World.cell?_setCell_other _ _ _ _ (show (⟨g, o, none⟩ : Addr) ≠ ⟨g, p, none⟩ from hne 0 (by omega))]
theorem bad6_far {w : World} {g o p : Nat} (h : o + 5 < p) : (bad6 w g o).cell? ⟨g, p, none⟩ = w.cell? ⟨g, p, none⟩ := by
  have hne : ∀ q, q ≤ 5 → (⟨g, o + q, none⟩ : Addr) ≠ ⟨g, p, none⟩ := fun q h2 e => by injection e with _ e2; omega
  unfold bad6
  rw [World.cell?_setCell_other _ _ _ _ (hne 5 (by omega)), World.cell?_setCell_other _ _ _ _ (hne 4 (by omega)), World.cell?_setCell_other _ _ _ _ (hne 3 (by omega)), World.cell?_setCell_other _ _ _ _ (hne 2 (by omega)), World.cell?_setCell_other _ _ _ _ (hne 1 (by omega)), World.cell?_setCell_other _ _ _ _ (show (⟨g, o, none⟩ : Addr) ≠ ⟨g, p, none⟩ from hne 0 (by omega))]
theorem OutK.bad5 {T : Nat → Prop} {a w : World} (h : OutK T a w) {g o : Nat} (hg : T g) : OutK T a (bad5 w g o) := ((((h.set hg _).set hg _).set hg _).set hg _).set hg _
theorem OutK.bad6 {T : Nat → Prop} {a w : World} (h : OutK T a w) {g o : Nat} (hg : T g) : OutK T a (bad6 w g o) := (((((h.set hg _).set hg _).set hg _).set hg _).set hg _).set hg _
section
variable {T : Nat → Prop} {w wr w1 : World} {h : Hd} {l : List Va} {ks : List ByteArray} {f : List Va} {us vs : List Hd} {SL SF : Nat → Nat → Prop} {i j g : Nat} {u : Hd}
theorem Sp.stepL (H : Sp T w h l ks f us vs SL SF i j wr) (hT : ∀ b, T b → b < w.heap.size) (sl : ∀ q b, SL q b → T b) (sf : ∀ q b, SF q b → T b) (dl : ∀ p q b, SL p b → SL q b → p = q) (dd : ∀ p q b, SL p b → SF q b → False)
    (hu : us[i]? = some u) (hk : OutK (SL i) wr w1) (hg : h.A = some ⟨g, 0, none⟩) : Sp T w h l ks f us vs SL SF (i + 1) j (bad5 w1 g (i * 5)) := by
  obtain ⟨g', eg, hTg, n1, n2, _, _⟩ := H.cl i u (Nat.le_refl _) hu
  obtain rfl : g = g' := by rw [hg] at eg; injection eg with e; injection e
  have hsz := H.ok.size
  have lt : ∀ b, T b → b < wr.heap.size := fun b hb => Nat.lt_of_lt_of_le (hT b hb) hsz
  have b1 : ∀ b, b < wr.heap.size → ¬ SL i b → b ≠ g → (bad5 w1 g (i * 5)).heap[b]? = wr.heap[b]? := fun b h1 h2 h3 => (bad5_blk h3).trans (hk.block b h1 h2)
  have hgk : w1.heap[g]? = wr.heap[g]? := hk.block g (lt g hTg) (n1 i)
  have hBn : ¬ SL i w.heap.size := fun q => by have := hT _ (sl i _ q); omega
  have hBg : w.heap.size ≠ g := fun e => by have := hT g hTg; omega
  refine ⟨(H.ok.trans (hk.mono (sl i))).bad5 hTg, ⟨by have := H.box.1; have := hk.size; simp; omega, fun d c hc => (World.cell?_of_block (a := ⟨w.heap.size, d, none⟩) (b1 _ H.box.1 hBn hBg)).trans (H.box.2 d c hc)⟩, ?_, ?_, ?_, ?_⟩
  · intro p u' hp hu'
    obtain ⟨g2, eg2, a1, a2, a3, a4, a5⟩ := H.cl p u' (by omega) hu'
    obtain rfl : g = g2 := by rw [hg] at eg2; injection eg2 with e; injection e
    refine ⟨g, eg2, a1, a2, a3, fun d c hc => ?_, fun o => ?_⟩
    · rw [bad5_far (by omega), World.cell?_of_block (a := ⟨g, p * 5 + d, none⟩) hgk]
      exact a4 d c hc
    · unfold Go.Proofs.Ytmdlcalnncncjaa.bad5
      simp only [World.frozen?_setCell]
      rw [World.frozen?_of_block (a := ⟨g, o, none⟩) hgk]
      exact a5 o
  · intro p x u' hp hx hu'
    exact Own.keep _ _ _ (H.kl p x u' (by omega) hx hu') fun b hb => b1 b (lt b (sl p b hb)) (fun q => by have := dl _ _ _ hb q; omega) (fun e => n1 p (e ▸ hb))
  · intro p key u' hp hky hu'
    obtain ⟨g2, eg2, a1, a2, a3, a4, a5, a6⟩ := H.cf p key u' hp hky hu'
    have hne : g2 ≠ g := fun e => a4 (by rw [hg, e])
    have hb := b1 g2 (lt g2 a1) (a2 i) hne
    refine ⟨g2, eg2, a1, a2, a3, a4, fun d c hc => ?_, fun o => ?_⟩
    · rw [World.cell?_of_block (a := ⟨g2, p * 6 + d, none⟩) hb]
      exact a5 d c hc
    · rw [World.frozen?_of_block (a := ⟨g2, o, none⟩) hb]
      exact a6 o
  · intro p x u' hp hx hu'
    exact Own.keep _ _ _ (H.kf p x u' hp hx hu') fun b hb => b1 b (lt b (sf p b hb)) (fun q => dd _ _ _ q hb) (fun e => n2 p (e ▸ hb))
theorem Sp.stepF {key : ByteArray} (H : Sp T w h l ks f us vs SL SF i j wr) (hil : us.length ≤ i) (hT : ∀ b, T b → b < w.heap.size) (sl : ∀ q b, SL q b → T b) (sf : ∀ q b, SF q b → T b) (df : ∀ p q b, SF p b → SF q b → p = q)
    (hky : ks[j]? = some key) (hu : vs[j]? = some u) (hk : OutK (SF j) wr w1) (hg : h.F = some ⟨g, 0, none⟩) : Sp T w h l ks f us vs SL SF i (j + 1) (bad6 w1 g (j * 6)) := by
  obtain ⟨g', eg, hTg, n1, n2, _, _, _⟩ := H.cf j key u (Nat.le_refl _) hky hu
  obtain rfl : g = g' := by rw [hg] at eg; injection eg with e; injection e
  have hsz := H.ok.size
  have lt : ∀ b, T b → b < wr.heap.size := fun b hb => Nat.lt_of_lt_of_le (hT b hb) hsz
  have b1 : ∀ b, b < wr.heap.size → ¬ SF j b → b ≠ g → (bad6 w1 g (j * 6)).heap[b]? = wr.heap[b]? := fun b h1 h2 h3 => (bad6_blk h3).trans (hk.block b h1 h2)
  have hgk : w1.heap[g]? = wr.heap[g]? := hk.block g (lt g hTg) (n2 j)
  have hBn : ¬ SF j w.heap.size := fun q => by have := hT _ (sf j _ q); omega
  have hBg : w.heap.size ≠ g := fun e => by have := hT g hTg; omega
  refine ⟨(H.ok.trans (hk.mono (sf j))).bad6 hTg, ⟨by have := H.box.1; have := hk.size; simp; omega, fun d c hc => (World.cell?_of_block (a := ⟨w.heap.size, d, none⟩) (b1 _ H.box.1 hBn hBg)).trans (H.box.2 d c hc)⟩, ?_, ?_, ?_, ?_⟩
  · intro p u' hp hu'
    have := (List.getElem?_eq_some_iff.1 hu').1
    omega
  · intro p x u' hp hx hu'
    have := (List.getElem?_eq_some_iff.1 hu').1
    omega
  · intro p key' u' hp hky' hu'
    obtain ⟨g2, eg2, a1, a2, a3, a4, a5, a6⟩ := H.cf p key' u' (by omega) hky' hu'
    obtain rfl : g = g2 := by rw [hg] at eg2; injection eg2 with e; injection e
    refine ⟨g, eg2, a1, a2, a3, a4, fun d c hc => ?_, fun o => ?_⟩
    · rw [bad6_far (by omega), World.cell?_of_block (a := ⟨g, p * 6 + d, none⟩) hgk]
      exact a5 d c hc
    · unfold Go.Proofs.Ytmdlcalnncncjaa.bad6
      simp only [World.frozen?_setCell]
      rw [World.frozen?_of_block (a := ⟨g, o, none⟩) hgk]
      exact a6 o
  · intro p x u' hp hx hu'
    exact Own.keep _ _ _ (H.kf p x u' (by omega) hx hu') fun b hb => b1 b (lt b (sf p b hb)) (fun q => by have := df _ _ _ hb q; omega) (fun e => n2 p (e ▸ hb))
end
end Go.Proofs.Ytmdlcalnncncjaa

/- A value of one's own, of which a part is turned in place. -/
set_option linter.unusedVariables false
set_option linter.unusedSimpArgs false
namespace Go.Proofs.Ytmdlcalnncncjaa
open Go.RowKit
theorem set_get {α : Type} {l : List α} {i j : Nat} {y z : α} (h : (l.set i y)[j]? = some z) : (j = i ∧ z = y) ∨ (j ≠ i ∧ l[j]? = some z) := by
  by_cases e : j = i
  · subst e
    have hj : j < l.length := by
      have := (List.getElem?_eq_some_iff.1 h).1
      simpa using this
    rw [List.getElem?_set_self hj] at h
    injection h with h
    exact .inl ⟨rfl, h.symm⟩
  · rw [List.getElem?_set_ne (Ne.symm e)] at h
    exact .inr ⟨e, h⟩
/-- An element, and what becomes of the whole where it is turned. -/
theorem Own.atL {w : World} {k n : Int} {s : ByteArray} {l : List Va} {ks : List ByteArray} {f : List Va} {T : Nat → Prop} {h : Hd} (H : Own w (.mk k n s l ks f) T h) (hT : ∀ b, T b → b < w.heap.size) {i : Nat} {x : Va} (hx : l[i]? = some x) :
    ∃ ad u Ti, h.A = some ad ∧ ad.block < w.heap.size ∧ At5 w (ad.add (i * 5)) u ∧ Own w x Ti u ∧ (∀ b, Ti b → T b) ∧ ∀ w' y, OutK Ti w w' → Own w' y Ti u → Own w' (.mk k n s (l.set i y) ks f) T h := by
  cases H with
  | mk us vs SL SF hd ul vl rl rf hl hf bl bf sl sf dl df dd =>
    have hil : i < l.length := (List.getElem?_eq_some_iff.1 hx).1
    have e4 := hd.1.2.2.2.1
    obtain ⟨u, hu⟩ : ∃ u, us[i]? = some u := ⟨us[i], List.getElem?_eq_getElem (by omega)⟩
    rcases rl.2 with ⟨_, h0⟩ | ⟨g, cap, cur, hv, _, hh, hle, _, hsz, ht⟩
    · omega
    · have eA : h.A = some ⟨g, 0, none⟩ := by injection hv
      have bg := bl g (by rw [eA]; rfl)
      refine ⟨⟨g, 0, none⟩, u, SL i, eA, hT g bg.1, At5.of fun d c hc => ?_, hl i x u hx hu, sl i, fun w' y ho hy => ?_⟩
      · rw [ada]
        exact rl.cells (g := g) (by rw [hv]; rfl) (i * 5 + d) c (flat_at Hd.cells 5 us (fun _ _ => rfl) i u hu d c hc)
      · refine Own.mk us vs SL SF (by simpa using hd) (by simpa using ul) vl ?_ ?_ ?_ ?_ bl bf sl sf dl df dd
        · have hk := own_block (w' := w') rl fun b hb => ho.block b (hT b (bl b hb).1) ((bl b hb).2.1 i)
          simpa using hk
        · exact own_block rf fun b hb => ho.block b (hT b (bf b hb).1) ((bf b hb).2.1 i)
        · intro j z u' hz hu'
          rcases set_get hz with ⟨rfl, rfl⟩ | ⟨hne, hz⟩
          · rw [hu] at hu'
            injection hu' with hu'
            subst hu'
            exact hy
          · exact Own.keep _ _ _ (hl j z u' hz hu') fun b hb => ho.block b (hT b (sl j b hb)) (fun q => hne (dl _ _ _ hb q))
        · intro j z u' hz hu'
          exact Own.keep _ _ _ (hf j z u' hz hu') fun b hb => ho.block b (hT b (sf j b hb)) (fun q => dd _ _ _ q hb)
theorem Own.atF {w : World} {k n : Int} {s : ByteArray} {l : List Va} {ks : List ByteArray} {f : List Va} {T : Nat → Prop} {h : Hd} (H : Own w (.mk k n s l ks f) T h) (hT : ∀ b, T b → b < w.heap.size) {i : Nat} {x : Va} (hx : f[i]? = some x) :
    ∃ ad u Ti key, h.F = some ad ∧ ad.block < w.heap.size ∧ At6 w (ad.add (i * 6)) key u ∧ Own w x Ti u ∧ (∀ b, Ti b → T b) ∧ ∀ w' y, OutK Ti w w' → Own w' y Ti u → Own w' (.mk k n s l ks (f.set i y)) T h := by
  cases H with
  | mk us vs SL SF hd ul vl rl rf hl hf bl bf sl sf dl df dd =>
    have hil : i < f.length := (List.getElem?_eq_some_iff.1 hx).1
    have e6 := hd.1.2.2.2.2.2
    obtain ⟨u, hu⟩ : ∃ u, vs[i]? = some u := ⟨vs[i], List.getElem?_eq_getElem (by omega)⟩
    obtain ⟨key, hky⟩ : ∃ key, ks[i]? = some key := ⟨ks[i], List.getElem?_eq_getElem (by omega)⟩
    rcases rf.2 with ⟨_, h0⟩ | ⟨g, cap, cur, hv, _, hh, hle, _, hsz, ht⟩
    · omega
    · have eF : h.F = some ⟨g, 0, none⟩ := by injection hv
      have bg := bf g (by rw [eF]; rfl)
      refine ⟨⟨g, 0, none⟩, u, SF i, key, eF, hT g bg.1, At6.of fun d c hc => ?_, hf i x u hx hu, sf i, fun w' y ho hy => ?_⟩
      · rw [ada]
        exact rf.cells (g := g) (by rw [hv]; rfl) (i * 6 + d) c (flat_at pcells 6 (ks.zip vs) (fun _ _ => rfl) i (key, u) (List.getElem?_zip_eq_some.2 ⟨hky, hu⟩) d c hc)
      · refine Own.mk us vs SL SF (by simpa using hd) ul (by simpa using vl) ?_ ?_ ?_ ?_ bl bf sl sf dl df dd
        · exact own_block rl fun b hb => ho.block b (hT b (bl b hb).1) ((bl b hb).2.2 i)
        · have hk := own_block (w' := w') rf fun b hb => ho.block b (hT b (bf b hb).1) ((bf b hb).2.2.1 i)
          simpa using hk
        · intro j z u' hz hu'
          exact Own.keep _ _ _ (hl j z u' hz hu') fun b hb => ho.block b (hT b (sl j b hb)) (fun q => dd _ _ _ hb q)
        · intro j z u' hz hu'
          rcases set_get hz with ⟨rfl, rfl⟩ | ⟨hne, hz⟩
          · rw [hu] at hu'
            injection hu' with hu'
            subst hu'
            exact hy
          · exact Own.keep _ _ _ (hf j z u' hz hu') fun b hb => ho.block b (hT b (sf j b hb)) (fun q => hne (df _ _ _ hb q))
/-- A list of which the first i are turned. -/
def mixL (l : List Va) (i : Nat) : List Va := srtL (l.take i) ++ l.drop i
theorem mixL_zero (l : List Va) : mixL l 0 = l := by simp [mixL, srtL]
theorem mixL_all (l : List Va) : mixL l l.length = srtL l := by simp [mixL]
theorem mixL_get {l : List Va} {i : Nat} {x : Va} (h : l[i]? = some x) : (mixL l i)[i]? = some x := by
  have hil : i < l.length := (List.getElem?_eq_some_iff.1 h).1
  have hl : (srtL (l.take i)).length = i := by rw [srtL_length, List.length_take]; omega
  rw [mixL, List.getElem?_append_right (by omega), hl, List.getElem?_drop]
  simpa using h
theorem mixL_step {l : List Va} {i : Nat} {x : Va} (h : l[i]? = some x) : (mixL l i).set i x.srt = mixL l (i + 1) := by
  have hil : i < l.length := (List.getElem?_eq_some_iff.1 h).1
  have hx : x = l[i] := by rw [List.getElem?_eq_getElem hil] at h; injection h with h; exact h.symm
  subst hx
  have hl : (srtL (l.take i)).length = i := by rw [srtL_length, List.length_take]; omega
  rw [mixL, mixL, List.set_append_right _ _ (by omega), hl, Nat.sub_self, srtL_map, srtL_map, List.take_succ_eq_append_getElem hil, List.map_append, List.append_assoc]
  congr 1
  rw [List.drop_eq_getElem_cons hil]
  rfl
/-- What a row's element is: its key, its cells, its value, its blocks. -/
structure El where
  key : ByteArray
  u : Hd
  x : Va
  S : Nat → Prop
instance : Inhabited El := ⟨⟨ByteArray.empty, ⟨0, 0, ByteArray.empty, none, 0, 0, none, 0, 0⟩, .mk 0 0 ByteArray.empty [] [] [], fun _ => False⟩⟩
def encE (e : El) : List Value := pcells (e.key, e.u)
theorem encE_len (e : El) : (encE e).length = 6 := rfl
theorem encE_one (e : El) : ∀ v ∈ encE e, v.oneCell' = true := by
  intro v hv
  simp only [encE, pcells, Hd.cells, List.mem_cons, List.not_mem_nil, or_false] at hv
  rcases hv with rfl | rfl | rfl | rfl | rfl | rfl <;> rfl
theorem flatK_list (d : Array El) : (Go.Sort.flatK encE 6 d).toList = d.toList.flatMap encE := by
  apply List.ext_getElem?
  intro t
  have hlen : ∀ m : List El, (m.flatMap encE).length = m.length * 6 := by
    intro m
    induction m with
    | nil => rfl
    | cons x r ih => rw [List.flatMap_cons, List.length_append, ih, encE_len, List.length_cons]; omega
  by_cases ht : t < d.size * 6
  · have h1 : (Go.Sort.flatK encE 6 d)[t]! = (encE d[t / 6]!)[t % 6]! := Go.Sort.get_flatK encE 6 d t ht
    have hq : t / 6 < d.size := by omega
    have hr : t % 6 < 6 := by omega
    have hsz : t < (Go.Sort.flatK encE 6 d).size := by rw [Go.Sort.size_flatK]; exact ht
    rw [getElem!_pos _ t hsz, getElem!_pos d (t / 6) hq, getElem!_pos _ (t % 6) (by rw [encE_len]; exact hr)] at h1
    have h2 := flat_at encE 6 d.toList (fun _ _ => rfl) (t / 6) d[t / 6] (by simp [hq]) (t % 6) _ (List.getElem?_eq_getElem (by rw [encE_len]; exact hr))
    rw [show t / 6 * 6 + t % 6 = t by omega] at h2
    rw [h2, Array.getElem?_toList, Array.getElem?_eq_getElem hsz, h1]
  · rw [List.getElem?_eq_none, List.getElem?_eq_none]
    · rw [hlen]
      simp
      omega
    · simp
      omega
end Go.Proofs.Ytmdlcalnncncjaa

/- A value of one's own whose pairs are sorted in place. -/
set_option linter.unusedVariables false
set_option linter.unusedSimpArgs false
namespace Go.Proofs.Ytmdlcalnncncjaa
open Go.RowKit
instance : Inhabited Hd := ⟨⟨0, 0, ByteArray.empty, none, 0, 0, none, 0, 0⟩⟩
instance : Inhabited Va := ⟨.mk 0 0 ByteArray.empty [] [] []⟩
theorem sw_size {w : World} {g m : Nat} {d' : Array El} {os : Array Obj} : (Go.Proofs.sortWorldK encE 6 w g 0 m d' os).heap.size = w.heap.size + os.size := by
  simp [Go.Proofs.sortWorldK, Go.Sort.grow, Go.Sort.putRowK, Go.Sort.putRow, Go.Sort.mapBlock]
theorem sw_other {w : World} {g m : Nat} {d' : Array El} {os : Array Obj} {b : Nat} (hb : b < w.heap.size) (hg : b ≠ g) : (Go.Proofs.sortWorldK encE 6 w g 0 m d' os).heap[b]? = w.heap[b]? := by
  simp only [Go.Proofs.sortWorldK, Go.Sort.grow, Go.Sort.putRowK, Go.Sort.putRow, Go.Sort.mapBlock, Go.Sort.ahead]
  rw [Array.getElem?_append_left (by simpa using hb), Array.getElem?_modify, if_neg (fun e => hg e.symm)]
theorem sw_row {w : World} {g m : Nat} {d' : Array El} {os : Array Obj} {c : Array Value} {e : TypeId} {fr : Nat × Nat} (hg : w.heap[g]? = some (.cells c e fr)) : (Go.Proofs.sortWorldK encE 6 w g 0 m d' os).heap[g]? = some (.cells (Go.Sort.putCells id 0 (Go.Sort.flatK encE 6 d') c) e fr) := by
  have hlt : g < w.heap.size := (Array.getElem?_eq_some_iff.1 hg).1
  simp only [Go.Proofs.sortWorldK, Go.Sort.grow, Go.Sort.putRowK, Go.Sort.putRow, Go.Sort.mapBlock, Go.Sort.ahead]
  rw [Array.getElem?_append_left (by simpa using hlt), Array.getElem?_modify, if_pos rfl, hg]
  rfl
theorem put_take {F c : Array Value} {n : Nat} (hF : F.size = n) (hn : n ≤ c.size) : (Go.Sort.putCells id 0 F c).toList.take n = F.toList := by
  apply List.ext_getElem?
  intro t
  by_cases ht : t < n
  · rw [List.getElem?_take_of_lt ht, Array.getElem?_toList, Array.getElem?_toList]
    simp only [Go.Sort.putCells, Array.getElem?_mapIdx]
    rw [Array.getElem?_eq_getElem (show t < c.size by omega), Array.getElem?_eq_getElem (show t < F.size by omega)]
    simp only [Option.map_some]
    rw [if_pos ⟨Nat.zero_le _, by omega⟩, Nat.sub_zero, getElem!_pos F t (by omega)]
    rfl
  · rw [List.getElem?_eq_none (by rw [List.length_take]; omega), List.getElem?_eq_none (by simp; omega)]
theorem sw_out {T : Nat → Prop} {w : World} {g m : Nat} {d' : Array El} {os : Array Obj} (hg : T g) : OutK T w (Go.Proofs.sortWorldK encE 6 w g 0 m d' os) :=
  ⟨rfl, rfl, rfl, by rw [sw_size]; omega, fun b h1 h2 => sw_other h1 (fun e => h2 (by rw [e]; exact hg))⟩
theorem own_set {w : World} {a : Va} {S S' : Nat → Prop} {h : Hd} (H : Own w a S h) (e : ∀ b, S' b ↔ S b) : Own w a S' h := by
  have : S' = S := funext fun b => propext (e b)
  rw [this]
  exact H
theorem Own.sortF {w : World} {k n : Int} {s : ByteArray} {l : List Va} {ks : List ByteArray} {f : List Va} {T : Nat → Prop} {h : Hd} (H : Own w (.mk k n s l ks f) T h) (hT : ∀ b, T b → b < w.heap.size) (h0 : 0 < f.length) :
    ∃ (g : Nat) (d : Array El), h.F = some ⟨g, 0, none⟩ ∧ T g ∧ d.size = f.length ∧ Go.Sort.HoldsK encE 6 w g 0 d ∧ d.toList.map (fun e => (e.key, e.x)) = ks.zip f ∧
      ∀ (d' : Array El) m os, d'.toList.Perm d.toList → Own (Go.Proofs.sortWorldK encE 6 w g 0 m d' os) (.mk k n s l (d'.toList.map El.key) (d'.toList.map El.x)) T h := by
  cases H with
  | mk us vs SL SF hd ul vl rl rf hl hf bl bf sl sf dl df dd =>
    have e4 := hd.1.2.2.2.1
    have e5 := hd.1.2.2.2.2.1
    have e6 := hd.1.2.2.2.2.2
    rcases rf.2 with ⟨_, h1⟩ | ⟨g, cap, cur, hv, _, hh, hle, hcm, hsz, ht⟩
    · omega
    · have eF : h.F = some ⟨g, 0, none⟩ := by injection hv
      have bg := bf g (by rw [eF]; rfl)
      have hgl := hT g bg.1
      let D : List El := (List.range f.length).map fun i => ⟨ks[i]!, vs[i]!, f[i]!, SF i⟩
      have hDl : D.length = f.length := by simp [D]
      have hDi : ∀ (i : Nat) e, D[i]? = some e → ∃ key u x, ks[i]? = some key ∧ vs[i]? = some u ∧ f[i]? = some x ∧ e = ⟨key, u, x, SF i⟩ := by
        intro i e he
        have hi : i < f.length := by have := (List.getElem?_eq_some_iff.1 he).1; omega
        have : D[i]? = some ⟨ks[i]!, vs[i]!, f[i]!, SF i⟩ := by simp [D, List.getElem?_map, hi]
        rw [this] at he
        injection he with he
        refine ⟨ks[i], vs[i], f[i], List.getElem?_eq_getElem (by omega), List.getElem?_eq_getElem (by omega), List.getElem?_eq_getElem hi, ?_⟩
        rw [← he, getElem!_pos ks i (by omega), getElem!_pos vs i (by omega), getElem!_pos f i hi]
      have hD1 : D.map (fun e => (e.key, e.u)) = ks.zip vs := by
        apply List.ext_getElem?
        intro i
        by_cases hi : i < f.length
        · obtain ⟨key, u, x, a1, a2, a3, a4⟩ := hDi i D[i] (List.getElem?_eq_getElem (by omega))
          rw [List.getElem?_map, List.getElem?_eq_getElem (by omega), a4]
          exact (List.getElem?_zip_eq_some.2 ⟨a1, a2⟩).symm
        · rw [List.getElem?_eq_none (by simp [hDl]; omega), List.getElem?_eq_none (by simp; omega)]
      have hD2 : D.map (fun e => (e.key, e.x)) = ks.zip f := by
        apply List.ext_getElem?
        intro i
        by_cases hi : i < f.length
        · obtain ⟨key, u, x, a1, a2, a3, a4⟩ := hDi i D[i] (List.getElem?_eq_getElem (by omega))
          rw [List.getElem?_map, List.getElem?_eq_getElem (by omega), a4]
          exact (List.getElem?_zip_eq_some.2 ⟨a1, a3⟩).symm
        · rw [List.getElem?_eq_none (by simp [hDl]; omega), List.getElem?_eq_none (by simp; omega)]
      have hflat : ∀ m : List El, m.flatMap encE = (m.map fun e => (e.key, e.u)).flatMap pcells := fun m => by
        rw [List.flatMap_map]
        rfl
      refine ⟨g, D.toArray, eF, bg.1, by simpa using hDl, ?_, by simpa using hD2, fun d' m os hp => ?_⟩
      · intro j hj
        have h1 : (Go.Sort.flatK encE 6 D.toArray)[j]? = some (Go.Sort.flatK encE 6 D.toArray)[j]! := by rw [getElem!_pos _ j hj]; exact Array.getElem?_eq_getElem hj
        rw [← Array.getElem?_toList, flatK_list] at h1
        simp only [List.toList_toArray] at h1
        rw [hflat, hD1] at h1
        have h2 := rf.cells (g := g) (by rw [hv]; rfl) j _ h1
        rw [add0'] at h2
        refine ⟨by rw [Nat.zero_add]; exact h2, by simp [World.frozen?, hh]⟩
      · simp only [List.toList_toArray] at hp
        have hdl : d'.toList.length = f.length := hp.length_eq.trans hDl
        have hds : d'.size = f.length := by simpa using hdl
        have hmem : ∀ (i : Nat) e, d'.toList[i]? = some e → ∃ (j : Nat) (key : ByteArray) (u : Hd) (x : Va), ks[j]? = some key ∧ vs[j]? = some u ∧ f[j]? = some x ∧ e = ⟨key, u, x, SF j⟩ := by
          intro i e he
          obtain ⟨j, hj⟩ := List.mem_iff_getElem?.1 (hp.mem_iff.1 (List.mem_of_getElem? he))
          obtain ⟨key, u, x, a⟩ := hDi j e hj
          exact ⟨j, key, u, x, a⟩
        have hpw : D.Pairwise fun e e' => ∀ b, e.S b → e'.S b → False := by
          rw [List.pairwise_iff_getElem]
          intro i j hi hj hij b q1 q2
          obtain ⟨_, _, _, _, _, _, a4⟩ := hDi i D[i] (List.getElem?_eq_getElem hi)
          obtain ⟨_, _, _, _, _, _, c4⟩ := hDi j D[j] (List.getElem?_eq_getElem hj)
          rw [a4] at q1
          rw [c4] at q2
          have := df i j b q1 q2
          omega
        have hpw' : d'.toList.Pairwise fun e e' => ∀ b, e.S b → e'.S b → False := (hp.pairwise_iff (fun h b q1 q2 => h b q2 q1)).2 hpw
        rw [List.pairwise_iff_getElem] at hpw'
        refine Own.mk us (d'.toList.map El.u) SL (fun i b => ∃ e, d'.toList[i]? = some e ∧ e.S b) ?_ ul (by simp [hdl]) ?_ ?_ ?_ ?_ ?_ ?_ sl ?_ dl ?_ ?_
        · refine ⟨⟨hd.1.1, hd.1.2.1, hd.1.2.2.1, e4, by rw [List.length_map, hdl]; exact e5, by simp⟩, hd.2.1, hd.2.2.1, hd.2.2.2.1, fun x hx => ?_, hd.2.2.2.2.2.1, by rw [List.length_map, hdl]; exact hd.2.2.2.2.2.2.1, hd.2.2.2.2.2.2.2.1, by rw [List.length_map, hdl]; exact hd.2.2.2.2.2.2.2.2⟩
          obtain ⟨e, he, rfl⟩ := List.mem_map.1 hx
          obtain ⟨i, hi⟩ := List.mem_iff_getElem?.1 he
          obtain ⟨j, key, u, y, a1, _, _, a4⟩ := hmem i e hi
          rw [a4]
          exact hd.2.2.2.2.1 key (List.mem_of_getElem? a1)
        · exact own_block rl fun b hb => sw_other (hT b (bl b hb).1) (fun e => bg.2.2.2 (by rw [← e]; exact hb))
        · have hzip : ((d'.toList.map El.key).zip (d'.toList.map El.u)).flatMap pcells = (Go.Sort.flatK encE 6 d').toList := by
            rw [flatK_list, hflat]
            congr 1
            rw [List.zip_map']
          rw [List.length_map, hdl, hzip]
          have hFs : (Go.Sort.flatK encE 6 d').size = f.length * 6 := by rw [Go.Sort.size_flatK, hds]
          have hcs : f.length * 6 ≤ cur.size := by rw [hsz]; exact Nat.mul_le_mul_right 6 hle
          refine ⟨by rw [Array.length_toList]; exact hFs, .inr ⟨g, cap, _, hv, Nat.zero_le _, sw_row hh, hle, hcm, by simp [Go.Sort.putCells, hsz], put_take hFs hcs⟩⟩
        · intro i x u hx hu
          exact Own.keep _ _ _ (hl i x u hx hu) fun b hb => sw_other (hT b (sl i b hb)) (fun e => bg.2.1 i (by rw [← e]; exact hb))
        · intro i x u hx hu
          rw [List.getElem?_map, Option.map_eq_some_iff] at hx hu
          obtain ⟨e, he, rfl⟩ := hx
          obtain ⟨e', he', rfl⟩ := hu
          rw [he] at he'
          injection he' with he'
          subst he'
          obtain ⟨j, key, u, y, a1, a2, a3, a4⟩ := hmem i e he
          subst a4
          refine own_set (Own.keep _ _ _ (hf j y u a3 a2) fun b hb => sw_other (hT b (sf j b hb)) (fun e => bg.2.2.1 j (by rw [← e]; exact hb))) fun b => ⟨fun ⟨e2, q1, q2⟩ => ?_, fun q => ⟨_, he, q⟩⟩
          rw [he] at q1
          injection q1 with q1
          subst q1
          exact q2
        · intro b hb
          obtain ⟨a1, a2, a3⟩ := bl b hb
          refine ⟨a1, a2, fun i ⟨e, he, hS⟩ => ?_⟩
          obtain ⟨j, _, _, _, _, _, _, a4⟩ := hmem i e he
          subst a4
          exact a3 j hS
        · rw [List.length_map, hdl] at *
          intro b hb
          obtain ⟨a1, a2, a3, a5⟩ := bf b hb
          refine ⟨a1, a2, fun i ⟨e, he, hS⟩ => ?_, a5⟩
          obtain ⟨j, _, _, _, _, _, _, a4⟩ := hmem i e he
          subst a4
          exact a3 j hS
        · rintro i b ⟨e, he, hS⟩
          obtain ⟨j, _, _, _, _, _, _, a4⟩ := hmem i e he
          subst a4
          exact sf j b hS
        · rintro i j b ⟨e, he, hS⟩ ⟨e', he', hS'⟩
          obtain ⟨hi, rfl⟩ := List.getElem?_eq_some_iff.1 he
          obtain ⟨hj, rfl⟩ := List.getElem?_eq_some_iff.1 he'
          rcases Nat.lt_trichotomy i j with hij | hij | hij
          · exact (hpw' i j hi hj hij b hS hS').elim
          · exact hij
          · exact (hpw' j i hj hi hij b hS' hS).elim
        · rintro i j b q ⟨e, he, hS⟩
          obtain ⟨p, _, _, _, _, _, _, a4⟩ := hmem j e he
          subst a4
          exact dd i p b q hS
end Go.Proofs.Ytmdlcalnncncjaa

/- cmp.Compare of texts, and the comparison that tree.sorted gives to the sort. -/
set_option linter.unusedVariables false
set_option linter.unusedSimpArgs false
namespace Go.Proofs.Ytmdlcalnncncjaa
open Go.RowKit
def cmpB (x y : ByteArray) : Int := if lessB x y = true then -1 else if x = y then 0 else 1
set_option maxHeartbeats 400000 in
theorem nan_str (x : ByteArray) (w : World) : Calls Try.prog 120 #[.string x] w fun e w' => e = .returned (.bool false) ∧ w' = w := by
  have h1 := bytes_eq (rfl : x = x)
  go_enter Try.func120, Try.ntmps120
  go_wp2
  go_ret
  exact ⟨by simp, rfl⟩
set_option maxHeartbeats 400000 in
theorem compare_str (x y : ByteArray) (w : World) : Calls Try.prog 102 #[.string x, .string y] w fun e w' => e = .returned (.int .i64 (cmpB x y)) ∧ w' = w := by
  by_cases h1 : lessB x y = true
  · have hc := Lib.hid (show cmpB x y = -1 by unfold cmpB; rw [if_pos h1])
    have hl : Op.bytesLess x.toList y.toList = true := h1
    go_enter Try.func102, Try.ntmps102
    go_wp2_with (go_at_call 120; refine (nan_str _ _).mono ?_; rintro e w1 ⟨rfl, rfl⟩)
    go_ret
    exact ⟨by rw [hc.out]; rfl, rfl⟩
  · have hl : Op.bytesLess x.toList y.toList = false := by simpa [lessB] using h1
    by_cases h2 : x = y
    · have hc := Lib.hid (show cmpB x y = 0 by unfold cmpB; rw [if_neg h1, if_pos h2])
      have hq := bytes_eq h2
      clear h2
      go_enter Try.func102, Try.ntmps102
      go_wp2_with (go_at_call 120; refine (nan_str _ _).mono ?_; rintro e w1 ⟨rfl, rfl⟩)
      go_ret
      exact ⟨by rw [hc.out]; rfl, rfl⟩
    · have hc := Lib.hid (show cmpB x y = 1 by unfold cmpB; rw [if_neg h1, if_neg h2])
      have hq := bytes_ne h2
      clear h2
      go_enter Try.func102, Try.ntmps102
      go_wp2_with (go_at_call 120; refine (nan_str _ _).mono ?_; rintro e w1 ⟨rfl, rfl⟩)
      go_ret
      exact ⟨by rw [hc.out]; rfl, rfl⟩
def cfE (x y : El) : Int := cmpB x.key y.key
theorem ltE (x y : El) : Go.Proofs.ltOf cfE x y = lessB x.key y.key := by
  unfold Go.Proofs.ltOf cfE cmpB
  by_cases h1 : lessB x.key y.key = true
  · simp [h1]
  · by_cases h2 : x.key = y.key <;> simp [h1, h2, lessB_irrefl]
theorem swoE : Go.Sort.SWO (Go.Proofs.ltOf cfE) where
  irrefl x := by rw [ltE]; exact lessB_irrefl _
  trans x y z h1 h2 := by rw [ltE] at *; exact lessB_trans h1 h2
  ntrans x y z h1 h2 := by rw [ltE] at *; exact lessB_ntrans h1 h2
set_option maxHeartbeats 1000000 in
theorem clos_cmp (x y : El) (W : World) : Calls Try.prog 101 #[.agg #[.string x.key, .int .i64 x.u.k, .int .i64 x.u.n, .string x.u.s, .slice x.u.A x.u.la x.u.lc, .slice x.u.F x.u.lf x.u.fc], .agg #[.string y.key, .int .i64 y.u.k, .int .i64 y.u.n, .string y.u.s, .slice y.u.A y.u.la y.u.lc, .slice y.u.F y.u.lf y.u.fc]] W fun e w' => e = .returned (.int .i64 (cfE x y)) ∧ ∃ q os', w' = Go.Sort.grow (W.drewN q) os' := by
  have hcon := fun W' => compare_str x.key y.key W'
  have hr : cmpB x.key y.key = cfE x y := rfl
  rw [hr] at hcon
  clear hr
  generalize cfE x y = r at hcon ⊢
  go_enter Try.func101, Try.ntmps101
  go_wp2_with (go_at_call 102; refine (hcon _).mono ?_; rintro e w' ⟨rfl, rfl⟩)
  go_ret
  exact ⟨rfl, 0, _, by rw [Go.Sort.alloc_eq_grow, Go.Sort.alloc_eq_grow, Go.Sort.grow_grow]; rfl⟩
theorem cmp_lays (blk off size : Nat) (w : World) : Go.Proofs.CmpLays Try.prog 101 #[] encE 6 cfE blk off size w := fun _ _ _ _ x y => clos_cmp x y _
end Go.Proofs.Ytmdlcalnncncjaa

/- slices.SortFunc of no pairs. -/
set_option linter.unusedVariables false
set_option linter.unusedSimpArgs false
namespace Go.Proofs.Ytmdlcalnncncjaa
open Go.RowKit
set_option maxHeartbeats 1000000 in
theorem ins_none (p : Option Addr) (cap : Nat) (fv : Value) (w : World) : Calls Try.prog 122 #[.slice p 0 cap, .int .i64 0, .int .i64 0, fv] w fun e w' => e = .returned (.tuple #[]) ∧ w' = w := by
  go_enter Try.func122, Try.ntmps122
  go_wp2
  refine wp_loop_rounds 1 ?_
  rw [rounds_succ]
  go_wp2
  go_end0
  exact ⟨rfl, rfl⟩
set_option maxHeartbeats 2000000 in
theorem pdq_none (p : Option Addr) (cap : Nat) (lim : Int) (fv : Value) (w : World) : Calls Try.prog 118 #[.slice p 0 cap, .int .i64 0, .int .i64 0, .int .i64 lim, fv] w fun e w' => e = .returned (.tuple #[]) ∧ w' = w := by
  have hi := fun W => ins_none p cap fv W
  go_enter Try.func118, Try.ntmps118
  go_wp2
  refine wp_loop_rounds 1 ?_
  rw [rounds_succ]
  go_wp2_with (go_at_call 122; refine (hi _).mono ?_; rintro e w' ⟨rfl, rfl⟩)
  (try simp only [Exit.inBlock, Exit.then]); refine bodyPost_ret (results_none rfl _ _ _) rfl ?_
  exact ⟨rfl, rfl⟩
set_option maxHeartbeats 1000000 in
theorem len64_zero (w : World) : Calls Try.prog 135 #[.int .u64 0] w fun e w' => (∃ z : Int, e = .returned (.int .i64 z)) ∧ w' = w := by
  go_enter Try.func135, Try.ntmps135
  go_wp2
  go_ret
  exact ⟨⟨_, rfl⟩, rfl⟩
set_option maxHeartbeats 1000000 in
theorem len_zero (w : World) : Calls Try.prog 119 #[.int .u64 0] w fun e w' => (∃ z : Int, e = .returned (.int .i64 z)) ∧ w' = w := by
  go_enter Try.func119, Try.ntmps119
  go_wp2_with (go_at_call 135; refine (len64_zero _).mono ?_; rintro e w' ⟨⟨z, rfl⟩, rfl⟩)
  go_ret
  exact ⟨⟨_, rfl⟩, rfl⟩
set_option maxHeartbeats 1000000 in
theorem sortf_none (p : Option Addr) (cap : Nat) (fv : Value) (w : World) : Calls Try.prog 100 #[.slice p 0 cap, fv] w fun e w' => e = .returned (.tuple #[]) ∧ w' = w := by
  have hp := fun lim W => pdq_none p cap lim fv W
  go_enter Try.func100, Try.ntmps100
  go_wp2_with (first | (go_at_call 119; refine (len_zero _).mono ?_; rintro e w' ⟨⟨z, rfl⟩, rfl⟩) | (go_at_call 118; refine (hp _ _).mono ?_; rintro e w' ⟨rfl, rfl⟩))
  go_end0
  exact ⟨rfl, rfl⟩
end Go.Proofs.Ytmdlcalnncncjaa

/- tree.sorted's closure, walked. -/
set_option linter.unusedVariables false
set_option linter.unusedSimpArgs false
namespace Go.Proofs.Ytmdlcalnncncjaa
open Go.RowKit
/-- What slices.SortFunc does to pairs. -/
def SortP : Prop := ∀ (blk cap : Nat) (d : Array El) (w : World), Go.Sort.HoldsK encE 6 w blk 0 d → blk < w.heap.size → d.size < 4611686018427387904 →
  Calls Try.prog 100 #[.slice (some ⟨blk, 0, none⟩) d.size cap, .func (.func 101) #[] #[]] w fun e w' => e = .returned (.tuple #[]) ∧ ∃ (d' : Array El) (m : Nat) (os : Array Obj), d'.toList.Perm d.toList ∧ Go.Sort.SortedIn (Go.Proofs.ltOf cfE) 0 d.size d' ∧ w' = Go.Proofs.sortWorldK encE 6 w blk 0 m d' os
abbrev closO (C : Nat) : Value := .func (.func 99) #[] #[.pointer (some ⟨C, 0, none⟩)]
/-- Where the walk stands: the value, its box, the closure's variable. -/
structure Od (w : World) (T : Nat → Prop) (h : Hd) (C : Nat) (a : Va) (wr : World) : Prop where
  own : Own wr a T h
  out : OutK T w wr
  box : Bx wr w.heap.size h
  clos : wr.cell? ⟨C, 0, none⟩ = some (closO C)
theorem Od.go {w wr w' : World} {T : Nat → Prop} {h : Hd} {C : Nat} {a : Va} (H : Od w T h C a wr) (hT : ∀ b, T b → b < w.heap.size) (hb : Below wr.heap.size wr w') : Od w T h C a w' :=
  ⟨Own.keep _ _ _ H.own fun b q => hb.block b (Nat.lt_of_lt_of_le (hT b q) H.out.size), H.out.trans (OutK.of_below hb), H.box.go hb H.box.1, (hb.cell (p := ⟨C, 0, none⟩) (World.block_lt_of_cell? wr _ H.clos)).trans H.clos⟩
theorem Od.turn {w wr w' : World} {T Ti : Nat → Prop} {h : Hd} {C : Nat} {a a' : Va} (H : Od w T h C a wr) (hT : ∀ b, T b → b < w.heap.size) (hC : ¬ T C) (ho : OutK Ti wr w') (hTi : ∀ b, Ti b → T b) (hown : Own w' a' T h) : Od w T h C a' w' := by
  have h1 := H.box.1
  have h2 := ho.size
  refine ⟨hown, H.out.trans (ho.mono hTi), ⟨by omega, fun j c hc => ?_⟩, ?_⟩
  · exact (World.cell?_of_block (a := ⟨w.heap.size, j, none⟩) (ho.block _ h1 (fun q => Nat.lt_irrefl _ (hT _ (hTi _ q))))).trans (H.box.2 j c hc)
  · exact (World.cell?_of_block (a := ⟨C, 0, none⟩) (ho.block _ (World.block_lt_of_cell? wr _ H.clos) (fun q => hC (hTi _ q)))).trans H.clos
theorem Od.start {w : World} {T : Nat → Prop} {h : Hd} {C : Nat} {a : Va} (H : Own w a T h) (hT : ∀ b, T b → b < w.heap.size) (hc : w.cell? ⟨C, 0, none⟩ = some (closO C)) : Od w T h C a (w.alloc (Obj.cells #[.int .i64 h.k, .int .i64 h.n, .string h.s, .slice h.A h.la h.lc, .slice h.F h.lf h.fc] 25)) :=
  ⟨Own.keep _ _ _ H fun b q => Below.heap_alloc _ _ _ (hT b q), OutK.of_below (one_alloc w _), Bx.start w h 25, ((one_alloc w _).cell (p := ⟨C, 0, none⟩) (World.block_lt_of_cell? w _ hc)).trans hc⟩
theorem srt_none {k n : Int} {s : ByteArray} {l : List Va} {ks : List ByteArray} {f : List Va} (h : f.length = 0) (e : ks.length = f.length) : (Va.mk k n s l ks f).srt = .mk k n s (srtL l) ks (srtL f) := by
  obtain rfl : f = [] := List.length_eq_zero_iff.1 h
  obtain rfl : ks = [] := List.length_eq_zero_iff.1 (e.trans h)
  simp [Va.srt, srtL, srtP]
theorem srt_some {k n : Int} {s : ByteArray} {l : List Va} {ks : List ByteArray} {f : List Va} {d' : Array El} (h : d'.toList.map (fun e => (e.key, e.x)) = srtP (ks.zip (srtL f))) : (Va.mk k n s l ks f).srt = .mk k n s (srtL l) (d'.toList.map El.key) (d'.toList.map El.x) := by
  simp only [Va.srt, ← h, List.map_map]
  rfl
theorem rise_of {d d' : Array El} {ps : List (ByteArray × Va)} (hp : d'.toList.Perm d.toList) (hs : Go.Sort.SortedIn (Go.Proofs.ltOf cfE) 0 d.size d') (he : d.toList.map (fun e => (e.key, e.x)) = ps) (hn : (ps.map Prod.fst).Nodup) : d'.toList.map (fun e => (e.key, e.x)) = srtP ps := by
  have hsz : d'.size = d.size := by simpa using hp.length_eq
  have hpm : (d'.toList.map (fun e => (e.key, e.x))).Perm ps := by rw [← he]; exact hp.map _
  refine sort_one hpm ?_ hn
  have hnd : ((d'.toList.map (fun e => (e.key, e.x))).map Prod.fst).Nodup := (hpm.map Prod.fst).nodup_iff.2 hn
  unfold Rise
  rw [List.pairwise_map, List.pairwise_iff_getElem]
  intro i j hi hj hij
  have hi' : i < d'.size := by simpa using hi
  have hj' : j < d'.size := by simpa using hj
  have h1 := hs i j (Nat.zero_le _) hij (by omega)
  rw [ltE, getElem!_pos d' i hi', getElem!_pos d' j hj'] at h1
  show lessB d'.toList[i].key d'.toList[j].key = true
  rw [Array.getElem_toList, Array.getElem_toList]
  cases h2 : lessB d'[i].key d'[j].key
  · exfalso
    have heq := lessB_one h2 h1
    rw [List.Nodup, List.pairwise_iff_getElem] at hnd
    refine hnd i j (by simpa using hi') (by simpa using hj') hij ?_
    simpa using heq
  · rfl
set_option maxHeartbeats 2000000 in
set_option maxRecDepth 100000 in
theorem order_any (hS : SortP) : ∀ (a : Va) (T : Nat → Prop) (h : Hd) (w : World) (C : Nat), Own w a T h → (∀ b, T b → b < w.heap.size) → a.cnt ≤ 1000 → (∃ d, a.R d) → w.cell? ⟨C, 0, none⟩ = some (closO C) → ¬ T C →
    Calls Try.prog 99 #[h.val, .pointer (some ⟨C, 0, none⟩)] w fun e w' => e = .returned (.tuple #[]) ∧ Own w' a.srt T h ∧ OutK T w w' := by
  intro a
  induction a using Va.ind with
  | h k nn s l ks f ihl ihf =>
  intro T h w C H hT hcn hR hcl hC
  have HSO := Lib.hid hS
  clear hS
  simp only [Va.cnt] at hcn
  have hl1 := len_le_cntL l
  have hf1 := len_le_cntL f
  obtain ⟨dd, hR⟩ := hR
  simp only [Va.R] at hR
  obtain ⟨-, -, hKP, hRL, hRF⟩ := hR
  have HL := Own.lies _ _ _ H
  simp only [Lies] at HL
  obtain ⟨⟨e1, e2, e3, e4, e5, e6⟩, -, -, -⟩ := HL
  have HOD := Lib.hid (Od.start H hT hcl)
  have HT := Lib.hid hT
  have HC := Lib.hid hC
  have HKP := Lib.hid hKP
  have E6 := Lib.hid e6
  have HRL := Lib.hid hRL
  have HRF := Lib.hid hRF
  clear H hT hC hKP hRL hRF e1 e2 e3 e6 hcl
  obtain ⟨hk, hnn, hs, A, la, lc, F, lf, fc⟩ := h
  simp only at e4 e5
  subst e4 e5
  unfold Hd.val
  simp only
  go_enter Try.func99, Try.ntmps99
  have cA := HOD.out.box.2 3 _ rfl
  go_wp2_with fail
  clear cA
  go_loopw [10] (fun iv wr => ∃ i : Nat, iv = .int .i64 i ∧ i ≤ l.length ∧ Od w T ⟨hk, hnn, hs, A, l.length, lc, F, f.length, fc⟩ C (.mk k nn s (mixL l i) ks f) wr) (fun iv _ => l.length - (intOf iv).toNat)
  case atStart => exact ⟨0, rfl, Nat.zero_le _, by rw [mixL_zero]; exact HOD.out⟩
  case round =>
    obtain ⟨i, rfl, hi, hO⟩ := hrel
    have HO := Lib.hid hO
    have cF := hO.box.2 4 _ rfl
    have hcc := hO.clos
    have hcw : C < wr.heap.size := World.block_lt_of_cell? wr _ hcc
    have hTr : ∀ b, T b → b < wr.heap.size := fun b q => Nat.lt_of_lt_of_le (HT.out b q) hO.out.size
    clear hO HOD
    by_cases hlt : i < l.length
    · obtain ⟨ad, u, Ti, eA, hab, hat, hox, hTi, hback⟩ := HO.out.own.atL hTr (mixL_get (List.getElem?_eq_getElem hlt))
      simp only at eA
      subst eA
      obtain ⟨k0, k1, k2, k3, k4⟩ := hat
      have HCAL := Lib.hid (ihl l[i] (List.getElem_mem hlt) Ti u (wr.alloc (Obj.cells #[.int .i64 u.k, .int .i64 u.n, .string u.s, .slice u.A u.la u.lc, .slice u.F u.lf u.fc] 25)) C (Own.keep _ _ _ hox fun b q => Below.heap_alloc _ _ _ (hTr b (hTi b q))) (fun b q => by have := hTr b (hTi b q); simp; omega) (by have := cntL_mem (List.getElem_mem hlt); omega) ⟨_, RL_mem HRL.out (List.getElem_mem hlt)⟩ (((one_alloc wr _).cell (p := ⟨C, 0, none⟩) hcw).trans hcc) (fun q => HC.out (hTi _ q)))
      have HBK := Lib.hid hback
      have HTI := Lib.hid hTi
      have HST := Lib.hid (mixL_step (List.getElem?_eq_getElem hlt))
      clear hox hTi hback ihl ihf hTr
      unfold Hd.val at HCAL
      go_wp2_with fail
      refine HCAL.out.mono ?_
      rintro e w2 ⟨rfl, hown2, ho2⟩
      have HO2 := Lib.hid ((OutK.of_below (one_alloc wr (Obj.cells #[.int .i64 u.k, .int .i64 u.n, .string u.s, .slice u.A u.la u.lc, .slice u.F u.lf u.fc] 25))).trans ho2)
      have HW2 := Lib.hid hown2
      clear hown2 ho2 HCAL k0 k1 k2 k3 k4 cF hcc
      go_wp2_with fail
      exact ⟨⟨i + 1, by go_num, by omega, HO.out.turn HT.out HC.out HO2.out HTI.out (by rw [← HST.out]; exact HBK.out w2 _ HO2.out HW2.out)⟩, by simp [intOf]; omega⟩
    · have hie : i = l.length := by omega
      subst hie
      clear ihl
      have HO1 : Hid (Od w T ⟨hk, hnn, hs, A, l.length, lc, F, f.length, fc⟩ C (.mk k nn s (srtL l) ks f) wr) := by have := HO.out; rw [mixL_all] at this; exact this
      clear HO hTr
      go_wp2_with fail
      clear cF hcc hcw
      go_loopw [21] (fun iv wt => ∃ i : Nat, iv = .int .i64 i ∧ i ≤ f.length ∧ Od w T ⟨hk, hnn, hs, A, l.length, lc, F, f.length, fc⟩ C (.mk k nn s (srtL l) ks (mixL f i)) wt) (fun iv _ => f.length - (intOf iv).toNat)
      case atStart => exact ⟨0, rfl, Nat.zero_le _, by rw [mixL_zero]; exact HO1.out⟩
      case round =>
        obtain ⟨i, rfl, hi', hO⟩ := hrel
        have HO := Lib.hid hO
        have cF := hO.box.2 4 _ rfl
        have hcc := hO.clos
        have hcw : C < wr.heap.size := World.block_lt_of_cell? wr _ hcc
        have hTr : ∀ b, T b → b < wr.heap.size := fun b q => Nat.lt_of_lt_of_le (HT.out b q) hO.out.size
        clear hO HO1
        by_cases hlt : i < f.length
        · obtain ⟨ad, u, Ti, key, eF, hab, hat, hox, hTi, hback⟩ := HO.out.own.atF hTr (mixL_get (List.getElem?_eq_getElem hlt))
          simp only at eF
          subst eF
          obtain ⟨k0, k1, k2, k3, k4, k5⟩ := hat
          have HCAL := Lib.hid (ihf f[i] (List.getElem_mem hlt) Ti u (wr.alloc (Obj.cells #[.string key, .int .i64 u.k, .int .i64 u.n, .string u.s, .slice u.A u.la u.lc, .slice u.F u.lf u.fc] 36)) C (Own.keep _ _ _ hox fun b q => Below.heap_alloc _ _ _ (hTr b (hTi b q))) (fun b q => by have := hTr b (hTi b q); simp; omega) (by have := cntL_mem (List.getElem_mem hlt); omega) ⟨_, RL_mem HRF.out (List.getElem_mem hlt)⟩ (((one_alloc wr _).cell (p := ⟨C, 0, none⟩) hcw).trans hcc) (fun q => HC.out (hTi _ q)))
          have HBK := Lib.hid hback
          have HTI := Lib.hid hTi
          have HST := Lib.hid (mixL_step (List.getElem?_eq_getElem hlt))
          clear hox hTi hback ihf hTr
          unfold Hd.val at HCAL
          go_wp2_with fail
          refine HCAL.out.mono ?_
          rintro e w2 ⟨rfl, hown2, ho2⟩
          have HO2 := Lib.hid ((OutK.of_below (one_alloc wr (Obj.cells #[.string key, .int .i64 u.k, .int .i64 u.n, .string u.s, .slice u.A u.la u.lc, .slice u.F u.lf u.fc] 36))).trans ho2)
          have HW2 := Lib.hid hown2
          clear hown2 ho2 HCAL k0 k1 k2 k3 k4 k5 cF hcc
          go_wp2_with fail
          exact ⟨⟨i + 1, by go_num, by omega, HO.out.turn HT.out HC.out HO2.out HTI.out (by rw [← HST.out]; exact HBK.out w2 _ HO2.out HW2.out)⟩, by simp [intOf]; omega⟩
        · have hie : i = f.length := by omega
          subst hie
          have HO1 : Hid (Od w T ⟨hk, hnn, hs, A, l.length, lc, F, f.length, fc⟩ C (.mk k nn s (srtL l) ks (srtL f)) wr) := by have := HO.out; rw [mixL_all] at this; exact this
          clear HO ihf hcc hcw
          by_cases hz : f.length = 0
          · have hE := srt_none (k := k) (n := nn) (s := s) (l := l) hz E6.out
            have HE := Lib.hid hE
            have hcf : wr.cell? ⟨w.heap.size, 4, none⟩ = some (.slice F 0 fc) := by rw [← hz]; exact cF
            clear cF hE
            go_wp2_with fail
            refine (sortf_none F fc _ wr).mono ?_
            rintro e w2 ⟨rfl, rfl⟩
            go_wp2_with fail
            go_end0
            exact ⟨rfl, by rw [HE.out]; exact HO1.out.own, HO1.out.out⟩
          · obtain ⟨g, d, eF, hTg, hds, hH, hpz, hback⟩ := HO1.out.own.sortF hTr (by rw [srtL_length]; omega)
            simp only at eF
            subst eF
            rw [srtL_length] at hds
            have hcal := HSO.out g fc d wr hH (hTr g hTg) (by omega)
            rw [hds] at hcal
            have HCAL := Lib.hid hcal
            have HBK := Lib.hid hback
            have HPZ := Lib.hid hpz
            have HDS := Lib.hid hds
            have HTG := Lib.hid hTg
            clear hH hcal hback hpz hds hTg hTr
            go_wp2_with fail
            refine HCAL.out.mono ?_
            rintro e w2 ⟨rfl, d', m, os, hp, hso, hw2⟩
            have hr := rise_of hp (by rw [HDS.out]; exact hso) HPZ.out (by rw [zip_fst (by rw [srtL_length]; exact E6.out)]; exact HKP.out.2)
            have HOW := Lib.hid (show Own w2 (Va.mk k nn s l ks f).srt T ⟨hk, hnn, hs, A, l.length, lc, some ⟨g, 0, none⟩, f.length, fc⟩ by rw [srt_some hr, hw2]; exact HBK.out d' m os hp)
            have HOO := Lib.hid (show OutK T wr w2 by rw [hw2]; exact sw_out HTG.out)
            clear hw2 hr hso hp
            go_wp2_with fail
            go_end0
            exact ⟨rfl, HOW.out, HO1.out.out.trans HOO.out⟩
end Go.Proofs.Ytmdlcalnncncjaa

/- tree.sorted, walked. -/
set_option linter.unusedVariables false
set_option linter.unusedSimpArgs false
namespace Go.Proofs.Ytmdlcalnncncjaa
open Go.RowKit
/-- Behind the first statements: the argument's box, the result's, the closure's variable. -/
structure Sd (w : World) (h : Hd) (wr : World) : Prop where
  bel : Below w.heap.size w wr
  box : Bx wr w.heap.size h
  res : wr.rowIs (w.heap.size + 1) 25 5 zeroRes
  clos : wr.cell? ⟨w.heap.size + 2, 0, none⟩ = some (closO (w.heap.size + 2))
  sz : w.heap.size + 3 ≤ wr.heap.size
theorem Sd.start (w : World) (h : Hd) : Sd w h (((w.alloc (Obj.cells #[.int .i64 h.k, .int .i64 h.n, .string h.s, .slice h.A h.la h.lc, .slice h.F h.lf h.fc] 25)).alloc (Obj.cells #[.int .i64 0, .int .i64 0, .string { data := #[] }, .slice none 0 0, .slice none 0 0] 25)).alloc (Obj.cells #[closO (w.heap.size + 2)] 49)) := by
  refine ⟨(((Below.refl _ _).alloc (Nat.le_refl _) _).alloc (by simp) _).alloc (by simp; omega) _, ((Bx.start w h 25).alloc _).alloc _, ?_, ?_, by simp⟩
  · refine hdAt_row (h := ⟨0, 0, ByteArray.empty, none, 0, 0, none, 0, 0⟩) ?_
    rw [Below.heap_alloc _ _ _ (by simp)]
    have h9 := heap_alloc_new (w.alloc (Obj.cells #[.int .i64 h.k, .int .i64 h.n, .string h.s, .slice h.A h.la h.lc, .slice h.F h.lf h.fc] 25)) (Obj.cells #[.int .i64 0, .int .i64 0, .string { data := #[] }, .slice none 0 0, .slice none 0 0] 25)
    rwa [World.size_alloc] at h9
  · rw [World.cell?_alloc_at _ _ _ _ (by simp)]
    rfl
theorem Sd.go {w wr w' : World} {h : Hd} (H : Sd w h wr) (hb : Below wr.heap.size wr w') : Sd w h w' := by
  have h1 := H.sz
  have h2 := hb.size
  exact ⟨H.bel.trans (hb.mono H.bel.size), H.box.go hb H.box.1, rowIs_below H.res hb (by omega), (hb.cell (p := ⟨w.heap.size + 2, 0, none⟩) (show w.heap.size + 2 < _ by omega)).trans H.clos, by omega⟩
theorem Sd.out {w wr w' : World} {h : Hd} {T : Nat → Prop} (H : Sd w h wr) (ho : OutK T wr w') (hT : ∀ b, T b → w.heap.size + 3 ≤ b) : Sd w h w' := by
  have h1 := H.sz
  have h2 := ho.size
  have hn : ∀ b, b < w.heap.size + 3 → ¬ T b := fun b hb q => by have := hT b q; omega
  refine ⟨H.bel.trans ⟨ho.os, ho.tape, ho.output, ho.size, fun k hk => ho.block k (by omega) (hn k (by omega))⟩, ⟨by have := H.box.1; omega, fun j c hc => ?_⟩, ?_, ?_, by omega⟩
  · exact (World.cell?_of_block (a := ⟨w.heap.size, j, none⟩) (ho.block w.heap.size H.box.1 (hn _ (by omega)))).trans (H.box.2 j c hc)
  · exact rowIs_below' (B := 0) H.res (ho.block _ (by omega) (hn _ (by omega)))
  · exact (World.cell?_of_block (a := ⟨w.heap.size + 2, 0, none⟩) (ho.block (w.heap.size + 2) (by omega) (hn _ (by omega)))).trans H.clos
set_option maxHeartbeats 2000000 in
set_option maxRecDepth 100000 in
theorem sorted_prog (hS : SortP) (a : Va) (S : Nat → Prop) (h : Hd) (w : World) (H : Lies w S a h) (hsh : a.Sh) (hcn : a.cnt ≤ 1000) (hR : ∃ d, a.R d) : Calls Try.prog 73 #[h.val] w fun e w' => NewR a.srt w e w' := by
  have HSD := Lib.hid (Sd.start w h)
  have HCAL := Lib.hid (anew_any a S h _ (H.below (Sd.start w h).bel (Nat.le_refl _)) hsh hcn)
  have HSO := Lib.hid hS
  have HR := Lib.hid hR
  clear H hsh hS hR
  unfold Hd.val at *
  go_enter Try.func73, Try.ntmps73
  go_wp2_with fail
  refine HCAL.out.mono ?_
  rintro e w1 ⟨h1, T, rfl, hown, hT, hb1⟩
  have hsz0 : w.heap.size + 3 ≤ (((w.alloc (Obj.cells #[.int .i64 h.k, .int .i64 h.n, .string h.s, .slice h.A h.la h.lc, .slice h.F h.lf h.fc] 25)).alloc (Obj.cells #[.int .i64 0, .int .i64 0, .string { data := #[] }, .slice none 0 0, .slice none 0 0] 25)).alloc (Obj.cells #[closO (w.heap.size + 2)] 49)).heap.size := HSD.out.sz
  have HS1 := Lib.hid (HSD.out.go hb1)
  have hbx := Bx.start w1 h1 25
  have hT3 : ∀ b, T b → w.heap.size + 3 ≤ b ∧ b < w1.heap.size := fun b q => ⟨Nat.le_trans hsz0 (hT b q).1, (hT b q).2⟩
  have HT3 := Lib.hid hT3
  have HS2 := Lib.hid (HS1.out.go (one_alloc w1 (Obj.cells #[.int .i64 h1.k, .int .i64 h1.n, .string h1.s, .slice h1.A h1.la h1.lc, .slice h1.F h1.lf h1.fc] 25)))
  have HO2 := Lib.hid (Own.keep _ _ _ hown (fun b q => Below.heap_alloc w1 (Obj.cells #[.int .i64 h1.k, .int .i64 h1.n, .string h1.s, .slice h1.A h1.la h1.lc, .slice h1.F h1.lf h1.fc] 25) _ (hT b q).2))
  have HBX := Lib.hid hbx
  have hcc := HS1.out.clos
  have hcw := HS1.out.sz
  have hC : w.heap.size + 2 < w1.heap.size := by omega
  clear hown hT hb1 hbx hT3 HCAL HSD hsz0
  go_wp2_with fail
  refine (order_any HSO.out a T h1 (w1.alloc (Obj.cells #[.int .i64 h1.k, .int .i64 h1.n, .string h1.s, .slice h1.A h1.la h1.lc, .slice h1.F h1.lf h1.fc] 25)) (w.heap.size + 2) HO2.out (fun b q => by have := (HT3.out b q).2; simp; omega) hcn HR.out HS2.out.clos (fun q => by have := (HT3.out _ q).1; omega)).mono ?_
  rintro e w3 ⟨rfl, hown3, ho3⟩
  have hs3 := ho3.size
  simp only [World.size_alloc] at hs3
  have hS3 := HS2.out.out ho3 (fun b q => (HT3.out b q).1)
  have HS3 := Lib.hid hS3
  have hbk : w3.heap[w1.heap.size]? = (w1.alloc (Obj.cells #[.int .i64 h1.k, .int .i64 h1.n, .string h1.s, .slice h1.A h1.la h1.lc, .slice h1.F h1.lf h1.fc] 25)).heap[w1.heap.size]? := ho3.block _ (by simp) (fun q => by have := (HT3.out _ q).2; omega)
  have y0 := (World.cell?_of_block (a := ⟨w1.heap.size, 0, none⟩) hbk).trans (HBX.out.2 0 _ rfl)
  have y1 := (World.cell?_of_block (a := ⟨w1.heap.size, 1, none⟩) hbk).trans (HBX.out.2 1 _ rfl)
  have y2 := (World.cell?_of_block (a := ⟨w1.heap.size, 2, none⟩) hbk).trans (HBX.out.2 2 _ rfl)
  have y3 := (World.cell?_of_block (a := ⟨w1.heap.size, 3, none⟩) hbk).trans (HBX.out.2 3 _ rfl)
  have y4 := (World.cell?_of_block (a := ⟨w1.heap.size, 4, none⟩) hbk).trans (HBX.out.2 4 _ rfl)
  have z0 := hS3.res.cell (show 0 < 5 by decide)
  have z1 := hS3.res.cell (show 1 < 5 by decide)
  have z2 := hS3.res.cell (show 2 < 5 by decide)
  have z3 := hS3.res.cell (show 3 < 5 by decide)
  have z4 := hS3.res.cell (show 4 < 5 by decide)
  have g0 := hS3.res.frozen 0
  have g1 := hS3.res.frozen 1
  have g2 := hS3.res.frozen 2
  have g3 := hS3.res.frozen 3
  have g4 := hS3.res.frozen 4
  have HO3 := Lib.hid hown3
  have HB3 := Lib.hid hS3.bel
  clear hown3 ho3 hS3 hbk hcc HS2 HO2 HS1
  simp only [zeroRes, hdAt, Hd.cells, List.getD_cons_succ, List.getD_cons_zero] at z0 z1 z2 z3 z4
  go_wp2_with fail
  refine bodyPost_ret (v := .agg #[.int .i64 h1.k, .int .i64 h1.n, .string h1.s, .slice h1.A h1.la h1.lc, .slice h1.F h1.lf h1.fc]) (by simp [results, Try.results73, go_sem, z0, z1, z2, z3, z4]) rfl ?_
  refine ⟨h1, T, rfl, Own.keep _ _ _ HO3.out (fun b q => res_set (w := w) b (by have := (HT3.out b q).1; omega)), fun b q => ?_, res_below HB3.out (Nat.le_succ _)⟩
  have := HT3.out b q
  exact ⟨by omega, by simp; omega⟩
end Go.Proofs.Ytmdlcalnncncjaa

/- The library's contract of slices.SortFunc, laid at this seat's translation in plain words (the guide's own command printed the laying), and what it says of pairs. -/
set_option linter.unusedVariables false
set_option linter.unusedSimpArgs false
namespace Go.Proofs
open Go.Shelf
def Try.sortP_ren : Go.Shelf.Ren := ⟨fun | 6 => 100 | 15 => 119 | 14 => 118 | 28 => 134 | 29 => 135 | 20 => 122 | 21 => 127 | 22 => 128 | 23 => 129 | 24 => 130 | 25 => 131 | 26 => 132 | 27 => 133 | 46 => 139 | 47 => 140 | 48 => 141 | 49 => 142 | 50 => 143 | 57 => 146 | n => n, fun | 22 => 23 | 24 => 36 | 25 => 89 | 3 => 3 | 39 => 117 | 0 => 0 | 53 => 131 | 55 => 133 | 4 => 4 | 46 => 125 | 45 => 124 | 50 => 85 | 5 => 5 | 9 => 9 | 66 => 135 | 70 => 139 | 76 => 141 | 77 => 142 | n => n, fun | n => n⟩
theorem Try.sortP : Go.Proofs.SlLaysF0.n6 Try.prog Try.sortP_ren := {
  mixed := by kernel_rfl
  f6 := ⟨Try.f100.name, by decide, Try.func100.trans (congrArg some (by kernel_rfl))⟩
  f14 := ⟨Try.f118.name, by decide, Try.func118.trans (congrArg some (by kernel_rfl))⟩
  f15 := Try.func119.trans (congrArg some (by kernel_rfl))
  f20 := ⟨Try.f122.name, by decide, Try.func122.trans (congrArg some (by kernel_rfl))⟩
  f21 := ⟨Try.f127.name, by decide, Try.func127.trans (congrArg some (by kernel_rfl))⟩
  f22 := ⟨Try.f128.name, by decide, Try.func128.trans (congrArg some (by kernel_rfl))⟩
  f23 := ⟨Try.f129.name, by decide, Try.func129.trans (congrArg some (by kernel_rfl))⟩
  f24 := ⟨Try.f130.name, by decide, Try.func130.trans (congrArg some (by kernel_rfl))⟩
  f25 := ⟨Try.f131.name, by decide, Try.func131.trans (congrArg some (by kernel_rfl))⟩
  f26 := ⟨Try.f132.name, by decide, Try.func132.trans (congrArg some (by kernel_rfl))⟩
  f27 := ⟨Try.f133.name, by decide, Try.func133.trans (congrArg some (by kernel_rfl))⟩
  f28 := Try.func134.trans (congrArg some (by kernel_rfl))
  f29 := Try.func135.trans (congrArg some (by kernel_rfl))
  f46 := ⟨Try.f139.name, by decide, Try.func139.trans (congrArg some (by kernel_rfl))⟩
  f47 := Try.func140.trans (congrArg some (by kernel_rfl))
  f48 := Try.func141.trans (congrArg some (by kernel_rfl))
  f49 := ⟨Try.f142.name, by decide, Try.func142.trans (congrArg some (by kernel_rfl))⟩
  f50 := ⟨Try.f143.name, by decide, Try.func143.trans (congrArg some (by kernel_rfl))⟩
  f57 := ⟨Try.f146.name, by decide, Try.func146.trans (congrArg some (by kernel_rfl))⟩
  t0 := Try.underlying0
  a0 := Try.isAgg0
  z0 := Try.sizeOf0
  v0 := Try.zeroValue0
  t3 := Try.underlying3
  a3 := Try.isAgg3
  z3 := Try.sizeOf3
  v3 := Try.zeroValue3
  t4 := Try.underlying4
  a4 := Try.isAgg4
  z4 := Try.sizeOf4
  v4 := Try.zeroValue4
  t5 := Try.underlying5
  a5 := Try.isAgg5
  z5 := Try.sizeOf5
  v5 := Try.zeroValue5
  t9 := Try.underlying9
  a9 := Try.isAgg9
  z9 := Try.sizeOf9
  v9 := Try.zeroValue9
  t22 := Try.underlying23
  a22 := Try.isAgg23
  z22 := Try.sizeOf23
  v22 := Try.zeroValue23
  t25 := Try.underlying89
  a25 := Try.isAgg89
  z25 := Try.sizeOf89
  v25 := Try.zeroValue89
  t39 := Try.underlying117
  a39 := Try.isAgg117
  z39 := Try.sizeOf117
  v39 := Try.zeroValue117
  t45 := Try.underlying124
  a45 := Try.isAgg124
  z45 := Try.sizeOf124
  v45 := Try.zeroValue124
  t46 := Try.underlying125
  a46 := Try.isAgg125
  z46 := Try.sizeOf125
  v46 := Try.zeroValue125
  t50 := Try.underlying85
  a50 := Try.isAgg85
  z50 := Try.sizeOf85
  v50 := Try.zeroValue85
  t53 := Try.underlying131
  a53 := Try.isAgg131
  z53 := Try.sizeOf131
  v53 := Try.zeroValue131
  t55 := Try.underlying133
  a55 := Try.isAgg133
  z55 := Try.sizeOf133
  v55 := Try.zeroValue133
  t66 := Try.underlying135
  a66 := Try.isAgg135
  z66 := Try.sizeOf135
  v66 := Try.zeroValue135
  t70 := Try.underlying139
  a70 := Try.isAgg139
  z70 := Try.sizeOf139
  v70 := Try.zeroValue139
  t76 := Try.underlying141
  a76 := Try.isAgg141
  z76 := Try.sizeOf141
  v76 := Try.zeroValue141
  t77 := Try.underlying142
  a77 := Try.isAgg142
  z77 := Try.sizeOf142
  v77 := Try.zeroValue142 }
end Go.Proofs
namespace Go.Proofs.Ytmdlcalnncncjaa
open Go.Shelf Go.RowKit
theorem perm_of {d d' : Array El} (h : Go.Sort.PermIn 0 d.size d d') : d'.toList.Perm d.toList := by
  obtain ⟨h1, _, h3⟩ := h
  rw [Array.extract_size] at h3
  rw [← h1, Array.extract_size] at h3
  exact h3
theorem sort_pairs : SortP := by
  intro blk cap d w hH hblk hsz
  have eg : ∀ args w, (callFunc 101 args).run Try.prog w = .ok (.enter 101 args) w := enters_of Try.func101 (by kernel_rfl) rfl
  have hcon := Go.Proofs.AnyQ.slices_SortFunc Go.Proofs.Try.sortP 6 Try.isAgg36 Try.sizeOf36 encE (fun _ => rfl) encE_one cfE swoE 101 #[] blk 0 cap d w eg (cmp_lays blk 0 d.size w) hH hblk hsz
  change Calls Try.prog 100 _ _ _ at hcon
  refine hcon.mono ?_
  rintro e w' ⟨rfl, d', n, os, hp, hs, rfl⟩
  exact ⟨rfl, d', n, os, perm_of hp, hs, rfl⟩
end Go.Proofs.Ytmdlcalnncncjaa

/- tree.Same, walked. -/
set_option linter.unusedVariables false
set_option linter.unusedSimpArgs false
namespace Go.Proofs.Ytmdlcalnncncjaa
open Go.RowKit
abbrev closS (C : Nat) : Value := .func (.func 69) #[] #[.pointer (some ⟨C, 0, none⟩)]
theorem twoA (wr : World) (o1 o2 : Obj) : Below wr.heap.size wr ((wr.alloc o1).alloc o2) := ((Below.refl _ _).alloc (Nat.le_refl _) _).alloc (by simp) _
/-- Elements to be read. -/
def RowV (w : World) (S : Nat → Prop) (A : Option Addr) (l : List Va) : Prop := ∀ (i : Nat) x, l[i]? = some x → ∃ ad u, A = some ad ∧ S ad.block ∧ (ad.add (i * 5)).block < w.heap.size ∧ Lies w S x u ∧ At5 w (ad.add (i * 5)) u
theorem RowV.below {w w' : World} {S : Nat → Prop} {A : Option Addr} {l : List Va} (H : RowV w S A l) (hb : Below w.heap.size w w') : RowV w' S A l := fun i x hx => by
  obtain ⟨ad, u, e, hs, h1, h2, h3⟩ := H i x hx
  exact ⟨ad, u, e, hs, Nat.lt_of_lt_of_le h1 hb.size, h2.below hb (Nat.le_refl _), h3.below hb h1⟩
/-- Pairs to be read. -/
def RowP (w : World) (S : Nat → Prop) (F : Option Addr) (ks : List ByteArray) (f : List Va) : Prop := ∀ (i : Nat) x, f[i]? = some x → ∃ ad u key, F = some ad ∧ S ad.block ∧ (ad.add (i * 6)).block < w.heap.size ∧ ks[i]? = some key ∧ key.size ≤ maxLen ∧ Lies w S x u ∧ At6 w (ad.add (i * 6)) key u
theorem RowP.below {w w' : World} {S : Nat → Prop} {F : Option Addr} {ks : List ByteArray} {f : List Va} (H : RowP w S F ks f) (hb : Below w.heap.size w w') : RowP w' S F ks f := fun i x hx => by
  obtain ⟨ad, u, key, e, hs, h1, hk, hm, h2, h3⟩ := H i x hx
  exact ⟨ad, u, key, e, hs, Nat.lt_of_lt_of_le h1 hb.size, hk, hm, h2.below hb (Nat.le_refl _), h3.below hb h1⟩
/-- The closure's contract for two values. -/
def SameC (C : Nat) (x y : Va) : Prop := ∀ (S S' : Nat → Prop) (u u' : Hd) (w : World), Lies w S x u → Lies w S' y u' → w.cell? ⟨C, 0, none⟩ = some (closS C) → Calls Try.prog 69 #[u.val, u'.val, .pointer (some ⟨C, 0, none⟩)] w fun e w' => SameR x y w e w'
set_option maxHeartbeats 1000000 in
set_option maxRecDepth 100000 in
theorem eqv_any (l l' : List Va) (S S' : Nat → Prop) (A A' : Option Addr) (c c' C : Nat) (w : World) (hl : l.length ≤ 1000) (HA : RowV w S A l) (HA' : RowV w S' A' l') (hc : w.cell? ⟨C, 0, none⟩ = some (closS C)) (HC : ∀ (i : Nat) x y, l[i]? = some x → l'[i]? = some y → SameC C x y) :
    Calls Try.prog 70 #[.slice A l.length c, .slice A' l'.length c', closS C] w fun e w' => YesNo (l = l') w e w' := by
  have hC : C < w.heap.size := World.block_lt_of_cell? w _ hc
  by_cases hll : l.length = l'.length
  case neg =>
    have hne : ((l.length : Int) != (l'.length : Int)) = true := by simp; omega
    have HLL := Lib.hid hll
    clear hll
    go_enter Try.func70, Try.ntmps70
    go_wp2_with fail
    go_ret
    exact YesNo.no (fun e => HLL.out (by rw [e])) (Below.refl _ _)
  rw [← hll]
  have HLL := Lib.hid hll
  clear hll
  go_enter Try.func70, Try.ntmps70
  go_wp2_with fail
  go_loopw [17] (fun iv wr => ∃ i : Nat, iv = .int .i64 i ∧ i ≤ l.length ∧ EqTo l l' i ∧ Below w.heap.size w wr) (fun iv _ => l.length - (intOf iv).toNat)
  case atStart => exact ⟨0, rfl, Nat.zero_le _, by simp [EqTo], Below.refl _ _⟩
  case round =>
    obtain ⟨i, rfl, hi, heq, hbel⟩ := hrel
    have HQ := Lib.hid heq
    have HB := Lib.hid hbel
    have hcr : wr.cell? ⟨C, 0, none⟩ = some (closS C) := (hbel.cell (p := ⟨C, 0, none⟩) hC).trans hc
    have HCR := Lib.hid hcr
    clear heq hbel hcr
    by_cases hlt : i < l.length
    · have hlt' : i < l'.length := by have := HLL.out; omega
      obtain ⟨ad, u, rfl, _, hbl, hLu, hcell⟩ := (HA.below HB.out) i _ (List.getElem?_eq_getElem hlt)
      obtain ⟨k0, k1, k2, k3, k4⟩ := hcell
      obtain ⟨ad', u', rfl, _, hbl', hLu', hcell'⟩ := (HA'.below HB.out) i _ (List.getElem?_eq_getElem hlt')
      obtain ⟨q0, q1, q2, q3, q4⟩ := hcell'
      have HLu := Lib.hid hLu
      have HLu' := Lib.hid hLu'
      have G1 := Lib.hid (List.getElem?_eq_getElem hlt)
      have G2 := Lib.hid (List.getElem?_eq_getElem hlt')
      have HCX := Lib.hid (HC i _ _ (List.getElem?_eq_getElem hlt) (List.getElem?_eq_getElem hlt'))
      clear hLu hLu'
      go_wp2_with fail
      refine (HCX.out S S' u u' _ (HLu.out.below (twoA wr _ _) (Nat.le_refl _)) (HLu'.out.below (twoA wr _ _) (Nat.le_refl _)) (((twoA wr _ _).cell (p := ⟨C, 0, none⟩) (World.block_lt_of_cell? wr _ HCR.out)).trans HCR.out)).mono ?_
      rintro e w1 ⟨r, rfl, hr, hb1⟩
      have HR := Lib.hid hr
      have HB1 := Lib.hid (HB.out.trans (((twoA wr _ _).trans (hb1.mono (twoA wr _ _).size)).mono HB.out.size))
      clear hr hb1
      cases r
      · go_wp2_with fail
        go_ret
        exact YesNo.no (fun e => ne_at G1.out G2.out (fun h => by have := HR.out.2 h; cases this) e) HB1.out
      · have hee : l[i] = l'[i] := HR.out.1 rfl
        have HQ2 := Lib.hid (HQ.out.step G1.out (hee ▸ G2.out))
        clear hee
        go_wp2_with fail
        exact ⟨⟨i + 1, by go_num, by omega, HQ2.out, HB1.out⟩, by simp [intOf]; omega⟩
    · have hall : Hid (l = l') := HQ.out.all (by omega) (by have := HLL.out; omega)
      go_wp2_with fail
      go_ret
      exact YesNo.yes hall.out HB.out
set_option maxHeartbeats 1000000 in
theorem pair1_any (key key' : ByteArray) (x y : Va) (S S' : Nat → Prop) (u u' : Hd) (C : Nat) (w : World) (H : Lies w S x u) (H' : Lies w S' y u') (hc : w.cell? ⟨C, 0, none⟩ = some (closS C)) (HC : SameC C x y) :
    Calls Try.prog 72 #[.agg #[.string key, .int .i64 u.k, .int .i64 u.n, .string u.s, .slice u.A u.la u.lc, .slice u.F u.lf u.fc], .agg #[.string key', .int .i64 u'.k, .int .i64 u'.n, .string u'.s, .slice u'.A u'.la u'.lc, .slice u'.F u'.lf u'.fc], .pointer (some ⟨C, 0, none⟩)] w fun e w' => YesNo (key = key' ∧ x = y) w e w' := by
  have hC : C < w.heap.size := World.block_lt_of_cell? w _ hc
  have HH := Lib.hid H
  have HH' := Lib.hid H'
  have HCC := Lib.hid HC
  clear H H' HC
  by_cases hkk : key = key'
  · have hkk' := bytes_eq hkk
    have HKK := Lib.hid hkk
    clear hkk
    go_enter Try.func72, Try.ntmps72
    go_wp2_with fail
    refine (HCC.out S S' u u' _ (HH.out.below (twoA w _ _) (Nat.le_refl _)) (HH'.out.below (twoA w _ _) (Nat.le_refl _)) (((twoA w _ _).cell (p := ⟨C, 0, none⟩) hC).trans hc)).mono ?_
    rintro e w1 ⟨r, rfl, hr, hb1⟩
    have HR := Lib.hid hr
    have HB1 := Lib.hid ((twoA w _ _).trans (hb1.mono (twoA w _ _).size))
    clear hr hb1
    go_wp2_with fail
    go_ret
    exact ⟨r, rfl, ⟨fun h => ⟨HKK.out, HR.out.1 h⟩, fun h => HR.out.2 h.2⟩, HB1.out⟩
  · have hkk' := bytes_ne hkk
    have HKK := Lib.hid hkk
    clear hkk
    go_enter Try.func72, Try.ntmps72
    go_wp2_with fail
    go_ret
    exact YesNo.no (fun h => HKK.out h.1) (twoA w _ _)
set_option maxHeartbeats 1000000 in
set_option maxRecDepth 100000 in
theorem eqp_any (ks ks' : List ByteArray) (f f' : List Va) (S S' : Nat → Prop) (F F' : Option Addr) (c c' C : Nat) (w : World) (hl : f.length ≤ 1000) (hk : ks.length = f.length) (hk' : ks'.length = f'.length) (HA : RowP w S F ks f) (HA' : RowP w S' F' ks' f') (hc : w.cell? ⟨C, 0, none⟩ = some (closS C)) (HC : ∀ (i : Nat) x y, f[i]? = some x → f'[i]? = some y → SameC C x y) :
    Calls Try.prog 71 #[.slice F f.length c, .slice F' f'.length c', .func (.func 72) #[] #[.pointer (some ⟨C, 0, none⟩)]] w fun e w' => YesNo (ks = ks' ∧ f = f') w e w' := by
  have hC : C < w.heap.size := World.block_lt_of_cell? w _ hc
  have HK := Lib.hid hk
  have HK' := Lib.hid hk'
  clear hk hk'
  by_cases hll : f.length = f'.length
  case neg =>
    have hne : ((f.length : Int) != (f'.length : Int)) = true := by simp; omega
    have HLL := Lib.hid hll
    clear hll
    go_enter Try.func71, Try.ntmps71
    go_wp2_with fail
    go_ret
    exact YesNo.no (fun e => HLL.out (by rw [e.2])) (Below.refl _ _)
  rw [← hll]
  have HLL := Lib.hid hll
  clear hll
  go_enter Try.func71, Try.ntmps71
  go_wp2_with fail
  go_loopw [17] (fun iv wr => ∃ i : Nat, iv = .int .i64 i ∧ i ≤ f.length ∧ EqTo ks ks' i ∧ EqTo f f' i ∧ Below w.heap.size w wr) (fun iv _ => f.length - (intOf iv).toNat)
  case atStart => exact ⟨0, rfl, Nat.zero_le _, by simp [EqTo], by simp [EqTo], Below.refl _ _⟩
  case round =>
    obtain ⟨i, rfl, hi, heqk, heq, hbel⟩ := hrel
    have HQ := Lib.hid heq
    have HQK := Lib.hid heqk
    have HB := Lib.hid hbel
    have hcr : wr.cell? ⟨C, 0, none⟩ = some (closS C) := (hbel.cell (p := ⟨C, 0, none⟩) hC).trans hc
    have HCR := Lib.hid hcr
    clear heq heqk hbel hcr
    by_cases hlt : i < f.length
    · have hlt' : i < f'.length := by have := HLL.out; omega
      obtain ⟨ad, u, key, rfl, _, hbl, hk, _, hLu, hcell⟩ := (HA.below HB.out) i _ (List.getElem?_eq_getElem hlt)
      obtain ⟨k0, k1, k2, k3, k4, k5⟩ := hcell
      obtain ⟨ad', u', key', rfl, _, hbl', hk', _, hLu', hcell'⟩ := (HA'.below HB.out) i _ (List.getElem?_eq_getElem hlt')
      obtain ⟨q0, q1, q2, q3, q4, q5⟩ := hcell'
      have HLu := Lib.hid hLu
      have HLu' := Lib.hid hLu'
      have GK := Lib.hid hk
      have GK' := Lib.hid hk'
      have G1 := Lib.hid (List.getElem?_eq_getElem hlt)
      have G2 := Lib.hid (List.getElem?_eq_getElem hlt')
      have HCX := Lib.hid (HC i _ _ (List.getElem?_eq_getElem hlt) (List.getElem?_eq_getElem hlt'))
      clear hLu hLu' hk hk'
      go_wp2_with fail
      refine (pair1_any key key' _ _ S S' u u' C _ (HLu.out.below (twoA wr _ _) (Nat.le_refl _)) (HLu'.out.below (twoA wr _ _) (Nat.le_refl _)) (((twoA wr _ _).cell (p := ⟨C, 0, none⟩) (World.block_lt_of_cell? wr _ HCR.out)).trans HCR.out) HCX.out).mono ?_
      rintro e w1 ⟨r, rfl, hr, hb1⟩
      have HR := Lib.hid hr
      have HB1 := Lib.hid (HB.out.trans (((twoA wr _ _).trans (hb1.mono (twoA wr _ _).size)).mono HB.out.size))
      clear hr hb1
      cases r
      · go_wp2_with fail
        go_ret
        refine YesNo.no (fun e => ?_) HB1.out
        have h1 : ¬ (key = key' ∧ f[i] = f'[i]) := fun h => by have := HR.out.2 h; cases this
        obtain ⟨e1, e2⟩ := e
        subst e1 e2
        exact h1 ⟨Option.some.inj (GK.out.symm.trans GK'.out), rfl⟩
      · have hee := HR.out.1 (by first | rfl | trivial)
        have HQ2 := Lib.hid (HQ.out.step G1.out (hee.2 ▸ G2.out))
        have HQK2 := Lib.hid (HQK.out.step GK.out (hee.1 ▸ GK'.out))
        clear hee
        go_wp2_with fail
        exact ⟨⟨i + 1, by go_num, by omega, HQK2.out, HQ2.out, HB1.out⟩, by simp [intOf]; omega⟩
    · have hall : Hid (ks = ks' ∧ f = f') := ⟨HQK.out.all (by have := HK.out; omega) (by have := HK'.out; have := HLL.out; omega), HQ.out.all (by omega) (by have := HLL.out; omega)⟩
      go_wp2_with fail
      go_ret
      exact YesNo.yes hall.out HB.out
end Go.Proofs.Ytmdlcalnncncjaa

/- tree.Same: the closure, and the whole. -/
set_option linter.unusedVariables false
set_option linter.unusedSimpArgs false
namespace Go.Proofs.Ytmdlcalnncncjaa
open Go.RowKit
set_option maxHeartbeats 1000000 in
set_option maxRecDepth 100000 in
theorem same1_any (C : Nat) : ∀ (a : Va), a.cnt ≤ 1000 → ∀ (b : Va), SameC C a b := by
  intro a
  induction a using Va.ind with
  | h k nn s l ks f ihl ihf =>
  intro hcn b S S' h h' w H H' hc
  obtain ⟨k', nn', s', l', ks', f'⟩ := b
  simp only [Va.cnt] at hcn
  have hl1 := len_le_cntL l
  have hf1 := len_le_cntL f
  have HIL := Lib.hid (show ∀ (i : Nat) x y, l[i]? = some x → l'[i]? = some y → SameC C x y from fun i x y hx _ => ihl x (List.mem_of_getElem? hx) (by have := cntL_mem (List.mem_of_getElem? hx); omega) y)
  have HIF := Lib.hid (show ∀ (i : Nat) x y, f[i]? = some x → f'[i]? = some y → SameC C x y from fun i x y hx _ => ihf x (List.mem_of_getElem? hx) (by have := cntL_mem (List.mem_of_getElem? hx); omega) y)
  clear ihl ihf
  have Hop := Lib.hid H.op
  have Hop' := Lib.hid H'.op
  simp only [Lies] at H H'
  obtain ⟨⟨e1, e2, e3, e4, e5, e6⟩, -, -, -⟩ := H
  obtain ⟨⟨e1', e2', e3', e4', e5', e6'⟩, -, -, -⟩ := H'
  obtain ⟨hk, hnn, hs, A, la, lc, F, lf, fc⟩ := h
  obtain ⟨hk', hnn', hs', A', la', lc', F', lf', fc'⟩ := h'
  simp only at e1 e2 e3 e4 e5
  simp only at e1' e2' e3' e4' e5'
  subst e1 e2 e3 e1' e2' e3' e4 e5 e4' e5'
  unfold Hd.val
  simp only
  have hC : C < w.heap.size := World.block_lt_of_cell? w _ hc
  have E6 := Lib.hid e6
  have E6' := Lib.hid e6'
  clear e6 e6'
  have fin : ∀ wx, Below w.heap.size w wx → (Va.mk hk hnn hs l ks f ≠ Va.mk hk' hnn' hs' l' ks' f') → SameR (Va.mk hk hnn hs l ks f) (Va.mk hk' hnn' hs' l' ks' f') w (.returned (.bool false)) wx :=
    fun wx hb hne => ⟨false, rfl, ⟨fun h => absurd h (by decide), fun h => absurd h hne⟩, hb⟩
  have FIN := Lib.hid fin
  clear fin
  by_cases h1 : hk = hk'
  case neg =>
    go_enter Try.func69, Try.ntmps69
    go_wp2_with fail
    go_ret
    exact FIN.out _ (twoA w _ _) (by intro e; injection e; contradiction)
  by_cases h2 : hnn = hnn'
  case neg =>
    go_enter Try.func69, Try.ntmps69
    go_wp2_with fail
    go_ret
    exact FIN.out _ (twoA w _ _) (by intro e; injection e; contradiction)
  by_cases h3 : hs = hs'
  case neg =>
    have h3' := bytes_ne h3
    go_enter Try.func69, Try.ntmps69
    go_wp2_with fail
    go_ret
    exact FIN.out _ (twoA w _ _) (by intro e; injection e; contradiction)
  subst h1 h2 h3
  go_enter Try.func69, Try.ntmps69
  go_wp2_with fail
  refine (eqv_any l l' S S' A A' lc lc' C _ (by omega) (RowV.below Hop.out.L (twoA w _ _)) (RowV.below Hop'.out.L (twoA w _ _)) (((twoA w _ _).cell (p := ⟨C, 0, none⟩) hC).trans hc) HIL.out).mono ?_
  rintro e w1 ⟨r, rfl, hr, hb1⟩
  have hb2 : Below w.heap.size w w1 := (twoA w _ _).trans (hb1.mono (twoA w _ _).size)
  have hbv : Bx w1 w.heap.size ⟨hk, hnn, hs, A, l.length, lc, F, f.length, fc⟩ := ((Bx.start w ⟨hk, hnn, hs, A, l.length, lc, F, f.length, fc⟩ 25).alloc _).go hb1 (by simp; omega)
  have hbx : Bx w1 (w.heap.size + 1) ⟨hk, hnn, hs, A', l'.length, lc', F', f'.length, fc'⟩ := (Bx.start' _ ⟨hk, hnn, hs, A', l'.length, lc', F', f'.length, fc'⟩ 25 (by simp)).go hb1 (by simp)
  have HR := Lib.hid hr
  have HB := Lib.hid hb2
  have cF := hbv.2 4 _ rfl
  have cF' := hbx.2 4 _ rfl
  clear hr hb1 hb2 hbv hbx
  cases r
  · go_wp2_with fail
    go_ret
    exact FIN.out _ HB.out (by intro e; injection e with _ _ _ e4; have := HR.out.2 e4; cases this)
  · have HEL := Lib.hid (HR.out.1 rfl)
    clear HR
    go_wp2_with fail
    refine (eqp_any ks ks' f f' S S' F F' fc fc' C w1 (by omega) E6.out E6'.out (RowP.below Hop.out.K HB.out) (RowP.below Hop'.out.K HB.out) ((HB.out.cell (p := ⟨C, 0, none⟩) hC).trans hc) HIF.out).mono ?_
    rintro e w2 ⟨r, rfl, hr, hb3⟩
    have HR := Lib.hid hr
    have HB3 := Lib.hid (HB.out.trans (hb3.mono HB.out.size))
    clear hr hb3
    go_wp2_with fail
    go_ret
    refine ⟨r, rfl, ⟨fun hr => ?_, fun he => ?_⟩, HB3.out⟩
    · have := HR.out.1 hr
      rw [HEL.out, this.1, this.2]
    · injection he with _ _ _ _ h5 h6
      exact HR.out.2 ⟨h5, h6⟩
set_option maxHeartbeats 1000000 in
theorem same_prog (a b : Va) (S S' : Nat → Prop) (h h' : Hd) (w : World) (H : Lies w S a h) (H' : Lies w S' b h') (hsa : a.Sh) (hsb : b.Sh) (hca : a.cnt ≤ 1000) (hcb : b.cnt ≤ 1000) :
    Calls Try.prog 26 #[h.val, h'.val] w fun e w' => YesNo (a.R 12 ∧ b.R 12 ∧ a = b) w e w' := by
  have HH := Lib.hid H
  have HH' := Lib.hid H'
  have HSA := Lib.hid hsa
  have HSB := Lib.hid hsb
  clear H H' hsa hsb
  unfold Hd.val
  go_enter Try.func26, Try.ntmps26
  go_wp2_with fail
  refine (right_prog a S h _ (HH.out.below (twoA w _ _) (Nat.le_refl _)) HSA.out hca).mono ?_
  rintro e w1 ⟨r, rfl, hr, hb1⟩
  have HB := Lib.hid ((twoA w _ _).trans (hb1.mono (twoA w _ _).size))
  have hbv : Bx w1 w.heap.size h := ((Bx.start w h 25).alloc _).go hb1 (by simp; omega)
  have hbx : Bx w1 (w.heap.size + 1) h' := (Bx.start' _ h' 25 (by simp)).go hb1 (by simp)
  have HV := Lib.hid hbv
  have HX := Lib.hid hbx
  have HR := Lib.hid hr
  have x0 := hbx.2 0 _ rfl
  have x1 := hbx.2 1 _ rfl
  have x2 := hbx.2 2 _ rfl
  have x3 := hbx.2 3 _ rfl
  have x4 := hbx.2 4 _ rfl
  clear hb1 hr hbv hbx
  cases r
  · clear x0 x1 x2 x3 x4
    go_wp2_with fail
    go_ret
    exact YesNo.no (fun q => by have := HR.out.2 q.1; cases this) HB.out
  have HRA := Lib.hid (HR.out.1 rfl)
  clear HR
  go_wp2_with fail
  refine (right_prog b S' h' w1 (HH'.out.below HB.out (Nat.le_refl _)) HSB.out hcb).mono ?_
  rintro e w2 ⟨r, rfl, hr, hb2⟩
  have HB2 := Lib.hid (HB.out.trans (hb2.mono HB.out.size))
  have hbv := HV.out.go hb2 HV.out.1
  have hbx := HX.out.go hb2 HX.out.1
  have HR := Lib.hid hr
  clear hb2 hr x0 x1 x2 x3 x4
  cases r
  · clear hbv hbx
    go_wp2_with fail
    go_ret
    exact YesNo.no (fun q => by have := HR.out.2 q.2.1; cases this) HB2.out
  have HRB := Lib.hid (HR.out.1 rfl)
  clear HR
  have v0 := hbv.2 0 _ rfl
  have v1 := hbv.2 1 _ rfl
  have v2 := hbv.2 2 _ rfl
  have v3 := hbv.2 3 _ rfl
  have v4 := hbv.2 4 _ rfl
  have x0 := hbx.2 0 _ rfl
  have x1 := hbx.2 1 _ rfl
  have x2 := hbx.2 2 _ rfl
  have x3 := hbx.2 3 _ rfl
  have x4 := hbx.2 4 _ rfl
  have hn1 := hbv.1
  have hn2 := hbx.1
  clear hbv hbx
  go_wp2_with fail
  refine (same1_any w2.heap.size a hca b S S' h h' _ ((HH.out.below HB2.out (Nat.le_refl _)).below ((Below.refl _ _).alloc (Nat.le_refl _) _) (Nat.le_refl _)) ((HH'.out.below HB2.out (Nat.le_refl _)).below ((Below.refl _ _).alloc (Nat.le_refl _) _) (Nat.le_refl _)) (World.cell?_alloc_new w2 _ _ 0)).mono ?_
  rintro e w3 ⟨r, rfl, hr, hb3⟩
  have HR := Lib.hid hr
  have HB3 := Lib.hid (HB2.out.trans ((after_alloc hb3).1.mono HB2.out.size))
  clear hr hb3
  go_wp2_with fail
  go_ret
  exact ⟨r, rfl, ⟨fun q => ⟨HRA.out, HRB.out, HR.out.1 q⟩, fun q => HR.out.2 q.2.2⟩, HB3.out⟩
end Go.Proofs.Ytmdlcalnncncjaa

/- tree.Alike, walked. -/
set_option linter.unusedVariables false
set_option linter.unusedSimpArgs false
namespace Go.Proofs.Ytmdlcalnncncjaa
open Go.RowKit
/-- What a statement loads of two boxes. -/
abbrev S10 (N : Nat) (h : Hd) (M : Nat) (hs : Hd) (w' : World) : Prop := w'.cell? ⟨N, 0, none⟩ = some (.int .i64 h.k) ∧ w'.cell? ⟨N, 1, none⟩ = some (.int .i64 h.n) ∧ w'.cell? ⟨N, 2, none⟩ = some (.string h.s) ∧ w'.cell? ⟨N, 3, none⟩ = some (.slice h.A h.la h.lc) ∧ w'.cell? ⟨N, 4, none⟩ = some (.slice h.F h.lf h.fc) ∧ w'.cell? ⟨M, 0, none⟩ = some (.int .i64 hs.k) ∧ w'.cell? ⟨M, 1, none⟩ = some (.int .i64 hs.n) ∧ w'.cell? ⟨M, 2, none⟩ = some (.string hs.s) ∧ w'.cell? ⟨M, 3, none⟩ = some (.slice hs.A hs.la hs.lc) ∧ w'.cell? ⟨M, 4, none⟩ = some (.slice hs.F hs.lf hs.fc)
theorem S10.of {w : World} {N M : Nat} {h hs : Hd} (H : Bx w N h) (K : Bx w M hs) : S10 N h M hs w := ⟨H.2 0 _ rfl, H.2 1 _ rfl, H.2 2 _ rfl, H.2 3 _ rfl, H.2 4 _ rfl, K.2 0 _ rfl, K.2 1 _ rfl, K.2 2 _ rfl, K.2 3 _ rfl, K.2 4 _ rfl⟩
theorem bel2 {w w1 w2 : World} (h : Below w.heap.size w w1) (k : Below w1.heap.size w1 w2) : Below w.heap.size w w2 := h.trans (k.mono h.size)
/-- Same of two sorted ones. -/
theorem same_srt (a b : Va) (h h' : Hd) (w : World) (hea : a.Ev) (heb : b.Ev) (hsa : a.Sh) (hsb : b.Sh) (hca : a.cnt ≤ 1000) (hcb : b.cnt ≤ 1000) (hra : a.R 12) (hrb : b.R 12) {T1 T2 : Nat → Prop} (H : Own w a.srt T1 h) (H' : Own w b.srt T2 h') :
    Calls Try.prog 26 #[h.val, h'.val] w fun e w' => YesNo (a.srt = b.srt) w e w' := by
  have q1 := srt_all a hea
  have q2 := srt_all b heb
  refine (same_prog a.srt b.srt T1 T2 h h' w (Own.lies _ _ _ H) (Own.lies _ _ _ H') (q1.2.1 hsa) (q2.2.1 hsb) (by omega) (by omega)).mono ?_
  rintro e w1 ⟨r, rfl, hr, hb⟩
  exact ⟨r, rfl, ⟨fun q => (hr.1 q).2.2, fun q => hr.2 ⟨q1.2.2 _ hra, q2.2.2 _ hrb, q⟩⟩, hb⟩
set_option maxHeartbeats 4000000 in
set_option maxRecDepth 100000 in
theorem alike_prog (a b : Va) (S S' : Nat → Prop) (h h' : Hd) (w : World) (H : Lies w S a h) (H' : Lies w S' b h') (hsa : a.Sh) (hsb : b.Sh) (hca : a.cnt ≤ 1000) (hcb : b.cnt ≤ 1000) :
    Calls Try.prog 27 #[h.val, h'.val] w fun e w' => YesNo (a.R 12 ∧ b.R 12 ∧ a.srt = b.srt) w e w' := by
  have HH := Lib.hid H
  have HH' := Lib.hid H'
  have HSA := Lib.hid hsa
  have HSB := Lib.hid hsb
  clear H H' hsa hsb
  unfold Hd.val
  go_enter Try.func27, Try.ntmps27
  go_wp2_with fail
  refine (right_prog a S h _ (HH.out.below (twoA w _ _) (Nat.le_refl _)) HSA.out hca).mono ?_
  rintro e w1 ⟨r, rfl, hr, hb1⟩
  have HB := Lib.hid ((twoA w _ _).trans (hb1.mono (twoA w _ _).size))
  have hbv : Bx w1 w.heap.size h := ((Bx.start w h 25).alloc _).go hb1 (by simp; omega)
  have hbx : Bx w1 (w.heap.size + 1) h' := (Bx.start' _ h' 25 (by simp)).go hb1 (by simp)
  have HV := Lib.hid hbv
  have HX := Lib.hid hbx
  have HR := Lib.hid hr
  have x0 := hbx.2 0 _ rfl
  have x1 := hbx.2 1 _ rfl
  have x2 := hbx.2 2 _ rfl
  have x3 := hbx.2 3 _ rfl
  have x4 := hbx.2 4 _ rfl
  clear hb1 hr hbv hbx
  cases r
  · clear x0 x1 x2 x3 x4
    go_wp2_with fail
    go_ret
    exact YesNo.no (fun q => by have := HR.out.2 q.1; cases this) HB.out
  have HRA := Lib.hid (HR.out.1 rfl)
  clear HR
  go_wp2_with fail
  refine (right_prog b S' h' w1 (HH'.out.below HB.out (Nat.le_refl _)) HSB.out hcb).mono ?_
  rintro e w2 ⟨r, rfl, hr, hb2⟩
  have HB2 := Lib.hid (HB.out.trans (hb2.mono HB.out.size))
  have hbv := HV.out.go hb2 HV.out.1
  have hbx := HX.out.go hb2 HX.out.1
  have HR := Lib.hid hr
  clear hb2 hr x0 x1 x2 x3 x4
  cases r
  · clear hbv hbx
    go_wp2_with fail
    go_ret
    exact YesNo.no (fun q => by have := HR.out.2 q.2.1; cases this) HB2.out
  have HRB := Lib.hid (HR.out.1 rfl)
  clear HR HV HX
  have hbd : Below w2.heap.size w2 w2.drew := (Below.refl _ _).drew
  have HV := Lib.hid (hbv.go hbd hbv.1)
  have HX := Lib.hid (hbx.go hbd hbx.1)
  have HBD := Lib.hid (bel2 HB2.out hbd)
  have hn1 := hbv.1
  have hn2 := hbx.1
  clear hbv hbx hbd HB2
  have HLA := Lib.hid (sorted_prog sort_pairs a S h w2.drew (HH.out.below HBD.out (Nat.le_refl _)) HSA.out hca ⟨_, HRA.out⟩)
  have HLB := Lib.hid (show ∀ wF, Below w2.drew.heap.size w2.drew wF → Calls Try.prog 73 #[h'.val] wF (NewR b.srt wF) from fun wF hb => sorted_prog sort_pairs b S' h' wF (HH'.out.below (bel2 HBD.out hb) (Nat.le_refl _)) HSB.out hcb ⟨_, HRB.out⟩)
  have HLC := Lib.hid (show ∀ wF wG hs1 T1 hs2 T2, Own wF a.srt T1 hs1 → (∀ b, T1 b → w2.drew.heap.size ≤ b ∧ b < wF.heap.size) → Below wF.heap.size wF wG → Own wG b.srt T2 hs2 → Calls Try.prog 26 #[hs1.val, hs2.val] wG (YesNo (a.srt = b.srt) wG) from
    fun wF wG hs1 T1 hs2 T2 o1 t1 hb o2 => same_srt a b hs1 hs2 wG (lies_ev _ _ _ HH.out) (lies_ev _ _ _ HH'.out) HSA.out HSB.out hca hcb HRA.out HRB.out (Own.keep _ _ _ o1 fun x q => hb.block x (t1 x q).2) o2)
  have HS0 := Lib.hid (S10.of HV.out HX.out)
  have HS1 := Lib.hid (show ∀ wF, Below w2.drew.heap.size w2.drew wF → S10 w.heap.size h (w.heap.size + 1) h' wF from fun wF hb => S10.of (HV.out.go hb HV.out.1) (HX.out.go hb HX.out.1))
  have HS2 := Lib.hid (show ∀ wF wG, Below w2.drew.heap.size w2.drew wF → Below wF.heap.size wF wG → S10 w.heap.size h (w.heap.size + 1) h' wG from fun wF wG hb hc => HS1.out wG (bel2 hb hc))
  have HS3 := Lib.hid (show ∀ wF wG wH, Below w2.drew.heap.size w2.drew wF → Below wF.heap.size wF wG → Below wG.heap.size wG wH → S10 w.heap.size h (w.heap.size + 1) h' wH from fun wF wG wH hb hc hd => HS1.out wH (bel2 (bel2 hb hc) hd))
  unfold Hd.val at HLA HLB HLC
  clear HH HH' HSA HSB
  have v0 := (HV.out).2 0 _ rfl
  go_wp2_with fail
  go_region_held3 (fun w' => w'.cell? ⟨w.heap.size, 0, none⟩ = some (.int .i64 h.k) ∧ w'.cell? ⟨w.heap.size, 1, none⟩ = some (.int .i64 h.n) ∧ w'.cell? ⟨w.heap.size, 2, none⟩ = some (.string h.s) ∧ w'.cell? ⟨w.heap.size, 3, none⟩ = some (.slice h.A h.la h.lc) ∧ w'.cell? ⟨w.heap.size, 4, none⟩ = some (.slice h.F h.lf h.fc) ∧ w'.cell? ⟨w.heap.size + 1, 0, none⟩ = some (.int .i64 h'.k) ∧ w'.cell? ⟨w.heap.size + 1, 1, none⟩ = some (.int .i64 h'.n) ∧ w'.cell? ⟨w.heap.size + 1, 2, none⟩ = some (.string h'.s) ∧ w'.cell? ⟨w.heap.size + 1, 3, none⟩ = some (.slice h'.A h'.la h'.lc) ∧ w'.cell? ⟨w.heap.size + 1, 4, none⟩ = some (.slice h'.F h'.lf h'.fc))
    (first
      | (have h7 := HS3.out _ _ _ hbF hbG hbH; with_reducible exact h7)
      | (have h7 := HS2.out _ _ hbF hbG; with_reducible exact h7)
      | (have h7 := HS1.out _ hbF; with_reducible exact h7)
      | (have h7 := HS0.out; with_reducible exact h7)
      | fail)
    (first
      | (go_at_call 26; refine (HLC.out _ _ _ _ _ _ hown1 hT1 hbG hown2).mono ?_; rintro e wH ⟨r, rfl, hr, hbH⟩)
      | (go_at_call 73; refine (HLB.out _ hbF).mono ?_; rintro e wG ⟨hs2, T2, rfl, hown2, hT2, hbG⟩)
      | (go_at_call 73; refine HLA.out.mono ?_; rintro e wF ⟨hs1, T1, rfl, hown1, hT1, hbF⟩)
      | fail)
  have HZ := Lib.hid (bel2 (bel2 (bel2 HBD.out hbF) hbG) hbH)
  have HR := Lib.hid hr
  clear hr hown1 hown2 hT1 hT2 hbF hbG hbH
  go_wp2_with fail
  go_ret
  exact ⟨r, rfl, ⟨fun q => ⟨HRA.out, HRB.out, HR.out.1 q⟩, fun q => HR.out.2 q.2.2⟩, HZ.out⟩
end Go.Proofs.Ytmdlcalnncncjaa

/- An argument that is a row of texts. -/
set_option linter.unusedVariables false
set_option linter.unusedSimpArgs false
namespace Go.Proofs.Ytmdlcalnncncjaa
open Go.ChangeShapes Go.WideShapes Go.ChangeAt Go.RowKit
theorem cellLt {w : World} {p : Addr} {v : Value} (h : w.cell? p = some v) : p.block < w.heap.size := by
  rcases Nat.lt_or_ge p.block w.heap.size with hl | hl
  · exact hl
  · unfold World.cell? at h
    rw [Array.getElem?_eq_none hl] at h
    cases h
def IsStrs (w : World) (a : Option Addr) (len : Nat) (ss : List ByteArray) : Prop := Rd w a len (ss.map Value.string) ∧ len ≤ maxLen ∧ ∀ x ∈ ss, x.size ≤ maxLen
theorem is_strs {H : Type} {enc : TypeId × Value → H} {W : World} {t e : TypeId} {a : Option Addr} {len cap : Nat} {d : DataW H} {ps : List MemPlace} (ht : Try.prog.underlying t = some (.slice e)) (he : Try.prog.underlying e = some .string) (hc : Try.prog.cellsOf e = 1)
    (h : DataW.Trod enc Try.prog W 0 (fun _ => true) true t (.slice a len cap) d ps) : ∃ ss, IsStrs W a len ss := by
  obtain ⟨fuel, hf⟩ := h
  rcases open_strings ht he hc hf with ⟨hcs, _⟩ | ⟨x, l, c, zs, hcs, _, hl, hm, hz, _, hcell, hwz⟩
  · simp [Value.cells] at hcs
    obtain ⟨rfl, rfl, rfl⟩ := hcs
    exact ⟨[], ⟨rfl, fun h => by omega⟩, Nat.zero_le _, fun z hz => by simp at hz⟩
  · simp [Value.cells] at hcs
    obtain ⟨rfl, rfl, rfl⟩ := hcs
    have hz' : zs.length = cap := by simpa using hz
    refine ⟨zs.take len, ⟨by simp; omega, fun hn => ⟨x, rfl, ?_, fun j u hu => ?_⟩⟩, by omega, fun z hz => hwz z (List.mem_of_mem_take hz)⟩
    · have := cellLt (hcell 0 (by omega)); rwa [adb] at this
    · rw [List.getElem?_map, Option.map_eq_some_iff] at hu
      obtain ⟨z, hz1, rfl⟩ := hu
      rw [List.getElem?_take] at hz1
      split at hz1
      · have hj : j < zs.length := by omega
        rw [hcell j hj, List.getD_eq_getElem?_getD, hz1]; rfl
      · cases hz1
end Go.Proofs.Ytmdlcalnncncjaa
