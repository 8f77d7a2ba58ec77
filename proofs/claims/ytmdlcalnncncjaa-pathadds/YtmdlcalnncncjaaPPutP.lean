/- path.changed and path.Put. -/
import Derived.Test.YtmdlcalnncncjaaPRep
set_option linter.unusedVariables false
set_option linter.unusedSimpArgs false
namespace Go.Proofs.Ytmdlcalnncncjaa
open Go.RowKit
theorem cntL_put {y z : Va} : ∀ {l : List Va} {i : Nat}, l[i]? = some y → cntL (l.set i z) + y.cnt = cntL l + z.cnt
  | x :: r, 0, h => by
    simp at h
    subst h
    simp only [List.set_cons_zero, cntL]
    omega
  | x :: r, i + 1, h => by
    have := cntL_put (z := z) (l := r) (i := i) (by simpa using h)
    simp only [List.set_cons_succ, cntL]
    omega
theorem putV_both {x : Va} (hx : x.Sh) : ∀ (p : List St) (a : Va), a.Sh → (putV a p x).Sh ∧ (putV a p x).cnt ≤ a.cnt + x.cnt
  | [], a, h => by
    have : putV a [] x = x := by cases a; rfl
    rw [this]
    exact ⟨hx, by omega⟩
  | s :: p, .mk k n t l ks f, h => by
    have same : (Va.mk k n t l ks f).Sh ∧ (Va.mk k n t l ks f).cnt ≤ (Va.mk k n t l ks f).cnt + x.cnt := ⟨h, by omega⟩
    have hs := h
    simp only [Va.Sh] at hs
    simp only [putV]
    split
    · rename_i i hi
      split
      · split
        · rename_i y hy
          have ih := putV_both hx p y (ShL_mem hs.2.1 (List.mem_of_getElem? hy))
          have hc := cntL_put (z := putV y p x) hy
          simp only [Va.Sh, Va.cnt]
          exact ⟨⟨hs.1, ShL_set ih.1 l i hs.2.1, hs.2.2.1, hs.2.2.2⟩, by omega⟩
        · exact same
      · split
        · rename_i y hy
          have ih := putV_both hx p y (ShL_mem hs.2.2.2 (List.mem_of_getElem? hy))
          have hc := cntL_put (z := putV y p x) hy
          simp only [Va.Sh, Va.cnt]
          exact ⟨⟨hs.1, hs.2.1, hs.2.2.1, ShL_set ih.1 f i hs.2.2.2⟩, by omega⟩
        · exact same
    · exact same
/-- What changed answers of the value b. -/
def ChgR (b : Va) (w : World) (e : Ending) (w' : World) : Prop := ∃ (b2 : Va) (h' : Hd) (er : Int), e = .returned (.tuple #[.agg #[.int .i64 h'.k, .int .i64 h'.n, .string h'.s, .slice h'.A h'.la h'.lc, .slice h'.F h'.lf h'.fc], .int .i64 er]) ∧ Below w.heap.size w w' ∧ Lies w' (fun x => w.heap.size ≤ x) b2 h' ∧
  ((b.R 12 ∧ er = 0 ∧ b2 = b) ∨ (¬ b.R 12 ∧ er = 5 ∧ b2 = zeroVa))
theorem three_blocks {w w1 : World} {h hx : Hd} (hb : Below (((w.alloc (Obj.cells #[.int .i64 h.k, .int .i64 h.n, .string h.s, .slice h.A h.la h.lc, .slice h.F h.lf h.fc] 25)).alloc (Obj.cells #[.int .i64 hx.k, .int .i64 hx.n, .string hx.s, .slice hx.A hx.la hx.lc, .slice hx.F hx.lf hx.fc] 25)).alloc (Obj.cells #[.int .i64 0, .int .i64 0, .string { data := #[] }, .slice none 0 0, .slice none 0 0] 25)).heap.size (((w.alloc (Obj.cells #[.int .i64 h.k, .int .i64 h.n, .string h.s, .slice h.A h.la h.lc, .slice h.F h.lf h.fc] 25)).alloc (Obj.cells #[.int .i64 hx.k, .int .i64 hx.n, .string hx.s, .slice hx.A hx.la hx.lc, .slice hx.F hx.lf hx.fc] 25)).alloc (Obj.cells #[.int .i64 0, .int .i64 0, .string { data := #[] }, .slice none 0 0, .slice none 0 0] 25)) w1) : TB w h hx w1 := (TB.start w h hx).go hb (by simp)
set_option maxHeartbeats 2000000 in
set_option maxRecDepth 100000 in
theorem changed_any (S : Nat → Prop) (x : Va) (hx : Hd) (p : List St) (a : Va) (h : Hd) (w : World) (A : Option Addr) (m c : Nat) (hSb : ∀ b, S b → b < w.heap.size) (H : Lies w S a h) (HX : Lies w S x hx) (hA : PathAt w A p) (hR : ∀ s ∈ p, StR s) (hm : m = p.length) (hc : m ≤ c) (hp : m ≤ 1000) (hsh : a.Sh) (hcn : a.cnt ≤ 400) (hxs : x.Sh) (hxc : x.cnt ≤ 400) (hgo : (goV a p).isSome = true) :
    Calls Try.prog 88 #[h.val, .slice A m c, hx.val] w fun e w' => ChgR (putV a p x) w e w' := by
  have htb := TB.start w h hx
  have hbs := htb.bel.size
  have K1 := Lib.hid (replaced_any S x hx p a h _ A m c (fun b hb => by have := hSb b hb; omega) (H.below htb.bel (Nat.le_refl _)) (HX.below htb.bel (Nat.le_refl _)) (hA.below htb.bel (Nat.le_refl _)) hR hm hc hp (by omega) hgo)
  have HBO := Lib.hid (putV_both hxs p a hsh)
  have HCNT : Hid ((putV a p x).cnt ≤ 1000) := Lib.hid (by have := (putV_both hxs p a hsh).2; omega)
  unfold Hd.val at *
  generalize putV a p x = b at *
  clear H HX hA hR hm hsh hxs hgo htb hbs hSb
  go_enter Try.func88, Try.ntmps88
  go_wp2_with fail
  refine K1.out.mono ?_
  rintro e w1 ⟨h', rfl, hl1, hb1⟩
  have HT1 := Lib.hid (three_blocks hb1)
  have HL1 := Lib.hid (show Lies w1 (fun _ => True) b h' from Lies.keep (fun _ _ _ => rfl) (fun _ _ _ => trivial) _ _ hl1)
  clear hl1 hb1 K1
  go_upto_region 2 with fail
  have hb4 := one_alloc w1 (Obj.cells #[.int .i64 h'.k, .int .i64 h'.n, .string h'.s, .slice h'.A h'.la h'.lc, .slice h'.F h'.lf h'.fc] 25)
  have hcx := Bx.start w1 h' 25
  generalize w1.alloc (Obj.cells #[.int .i64 h'.k, .int .i64 h'.n, .string h'.s, .slice h'.A h'.la h'.lc, .slice h'.F h'.lf h'.fc] 25) = w4 at hb4 hcx ⊢
  have HT4 := Lib.hid (HT1.out.go hb4 HT1.out.sz)
  have HL4 := Lib.hid (HL1.out.below hb4 (Nat.le_refl _))
  have HC4 := Lib.hid hcx
  have x0 := hcx.2 0 _ rfl
  have x1 := hcx.2 1 _ rfl
  have x2 := hcx.2 2 _ rfl
  have x3 := hcx.2 3 _ rfl
  have x4 := hcx.2 4 _ rfl
  clear hb4 hcx HT1 HL1
  have K2 := Lib.hid (right_prog b _ h' w4 HL4.out HBO.out.1 HCNT.out)
  unfold Hd.val at K2
  go_wp2_with fail
  refine K2.out.mono ?_
  rintro e w5 ⟨r, rfl, hr, hb5⟩
  have HR := Lib.hid hr
  have HT5 := Lib.hid (HT4.out.go hb5 HT4.out.sz)
  have HC5 := Lib.hid (HC4.out.go hb5 HC4.out.1)
  have HL5 := Lib.hid (HL4.out.below hb5 (Nat.le_refl _))
  clear hr hb5 K2 x0 x1 x2 x3 x4 HT4 HC4 HL4
  cases r
  · have z0 := HT5.out.res.cell (show 0 < 5 by decide)
    have z1 := HT5.out.res.cell (show 1 < 5 by decide)
    have z2 := HT5.out.res.cell (show 2 < 5 by decide)
    have z3 := HT5.out.res.cell (show 3 < 5 by decide)
    have z4 := HT5.out.res.cell (show 4 < 5 by decide)
    have g0 := HT5.out.res.frozen 0
    have g1 := HT5.out.res.frozen 1
    have g2 := HT5.out.res.frozen 2
    have g3 := HT5.out.res.frozen 3
    have g4 := HT5.out.res.frozen 4
    simp only [hdAt, Hd.cells, List.getD_cons_succ, List.getD_cons_zero] at z0 z1 z2 z3 z4
    go_wp2_with fail
    refine bodyPost_ret (v := .tuple #[.agg #[.int .i64 0, .int .i64 0, .string ByteArray.empty, .slice none 0 0, .slice none 0 0], .int .i64 5]) (by simp [results, Try.results88, go_sem, z0, z1, z2, z3, z4]; try rfl) rfl ?_
    exact ⟨zeroVa, zeroHd, 5, rfl, res_below HT5.out.bel (by omega), lies_zero _ _, .inr ⟨fun h => absurd (HR.out.2 h) (by decide), rfl, rfl⟩⟩
  have HY := Lib.hid (HR.out.1 rfl)
  have x0 := HC5.out.2 0 _ rfl
  have x1 := HC5.out.2 1 _ rfl
  have x2 := HC5.out.2 2 _ rfl
  have x3 := HC5.out.2 3 _ rfl
  have x4 := HC5.out.2 4 _ rfl
  have KC := Lib.hid (clone_prog b _ h' w5 HL5.out HBO.out.1 HCNT.out)
  unfold Hd.val at KC
  clear HR
  go_wp2_with fail
  refine KC.out.mono ?_
  rintro e w6 ⟨b6, h6, T6, rfl, hown6, hT6, hb6, hba6, -⟩
  obtain rfl : b6 = b := hba6 HY.out
  have HT6 := Lib.hid (HT5.out.go hb6 HT5.out.sz)
  have HL6 := Lib.hid (Own.lies _ _ _ hown6)
  have HTT := Lib.hid hT6
  have hs5 := HT5.out.sz
  clear hown6 hT6 hb6 hba6 KC x0 x1 x2 x3 x4
  have z0 := HT6.out.res.cell (show 0 < 5 by decide)
  have z1 := HT6.out.res.cell (show 1 < 5 by decide)
  have z2 := HT6.out.res.cell (show 2 < 5 by decide)
  have z3 := HT6.out.res.cell (show 3 < 5 by decide)
  have z4 := HT6.out.res.cell (show 4 < 5 by decide)
  have g0 := HT6.out.res.frozen 0
  have g1 := HT6.out.res.frozen 1
  have g2 := HT6.out.res.frozen 2
  have g3 := HT6.out.res.frozen 3
  have g4 := HT6.out.res.frozen 4
  simp only [hdAt, Hd.cells, List.getD_cons_succ, List.getD_cons_zero] at z0 z1 z2 z3 z4
  go_wp2_with fail
  refine bodyPost_ret (v := .tuple #[.agg #[.int .i64 h6.k, .int .i64 h6.n, .string h6.s, .slice h6.A h6.la h6.lc, .slice h6.F h6.lf h6.fc], .int .i64 0]) (by simp [results, Try.results88, go_sem, z0, z1, z2, z3, z4]; try rfl) rfl ?_
  refine ⟨b6, h6, 0, rfl, res_below HT6.out.bel (by omega), ?_, .inl ⟨HY.out, rfl, rfl⟩⟩
  exact Lies.keep (fun q hq _ => World.cell?_of_block (res_set (w := w) _ (fun e => by have := (HTT.out _ hq).1; omega))) (fun q hq _ => by have := (HTT.out _ hq).1; omega) _ _ HL6.out
end Go.Proofs.Ytmdlcalnncncjaa
