/- path.Put. -/
import Derived.Test.YtmdlcalnncncjaaPPutP
set_option linter.unusedVariables false
set_option linter.unusedSimpArgs false
namespace Go.Proofs.Ytmdlcalnncncjaa
open Go.RowKit
/-- What Put answers. -/
def PutQ (a : Va) (p : List St) (x : Va) (w : World) (e : Ending) (w' : World) : Prop := ∃ (b : Va) (h' : Hd) (er : Int), e = .returned (.tuple #[.agg #[.int .i64 h'.k, .int .i64 h'.n, .string h'.s, .slice h'.A h'.la h'.lc, .slice h'.F h'.lf h'.fc], .int .i64 er]) ∧ Below w.heap.size w w' ∧ Lies w' (fun _ => True) b h' ∧
  ((¬ AllR a p [x] ∧ er = 1 ∧ b = zeroVa) ∨ (AllR a p [x] ∧ goV a p = none ∧ er = 8 ∧ b = zeroVa) ∨ (AllR a p [x] ∧ (goV a p).isSome = true ∧ (putV a p x).R 12 ∧ er = 0 ∧ b = putV a p x) ∨ (AllR a p [x] ∧ (goV a p).isSome = true ∧ ¬ (putV a p x).R 12 ∧ er = 5 ∧ b = zeroVa))
theorem InsAt.one {w : World} {x : Va} {u : Hd} (H : Lies w (fun _ => True) x u) (hs : x.Sh) (hc : x.cnt ≤ 1000) : InsAt (w.alloc (Obj.cells #[.int .i64 u.k, .int .i64 u.n, .string u.s, .slice u.A u.la u.lc, .slice u.F u.lf u.fc] 25)) (some ⟨w.heap.size, 0, none⟩) [x] := by
  intro i y hy
  have hi : i < 1 := (List.getElem?_eq_some_iff.1 hy).1
  obtain rfl : i = 0 := by omega
  simp at hy
  subst hy
  have hb := Bx.start w u 25
  refine ⟨_, u, rfl, by rw [adb]; simp, H.below (one_alloc _ _) (Nat.le_refl _), At5.of fun j c hj => ?_, hs, hc⟩
  rw [ada, Nat.zero_mul, Nat.zero_add, add0]
  exact hb.2 j c hj
set_option maxHeartbeats 2000000 in
set_option maxRecDepth 100000 in
theorem put_prog (a x : Va) (S S' : Nat → Prop) (h hx : Hd) (w : World) (A : Option Addr) (m c : Nat) (p : List St) (H : Lies w S a h) (HX : Lies w S' x hx) (hsh : a.Sh) (hcn : a.cnt ≤ 400) (hxs : x.Sh) (hxc : x.cnt ≤ 400) (hA : PathAt w A p) (hm : m = p.length) (hc : m ≤ c) (hp : m ≤ 1000) :
    Calls Try.prog 51 #[h.val, .slice A m c, hx.val] w fun e w' => PutQ a p x w e w' := by
  have HS := Lib.hid (show Lies w (fun b => b < w.heap.size) a h from Lies.keep (fun _ _ _ => rfl) (fun b _ hb => hb) _ _ H)
  have HSX := Lib.hid (show Lies w (fun b => b < w.heap.size) x hx from Lies.keep (fun _ _ _ => rfl) (fun b _ hb => hb) _ _ HX)
  have HSH := Lib.hid hsh
  have HXS := Lib.hid hxs
  have HA := Lib.hid hA
  have HM := Lib.hid hm
  have htb := TB.start w h hx
  have hb5 := htb.bel.trans ((one_alloc (((w.alloc (Obj.cells #[.int .i64 h.k, .int .i64 h.n, .string h.s, .slice h.A h.la h.lc, .slice h.F h.lf h.fc] 25)).alloc (Obj.cells #[.int .i64 hx.k, .int .i64 hx.n, .string hx.s, .slice hx.A hx.la hx.lc, .slice hx.F hx.lf hx.fc] 25)).alloc (Obj.cells #[.int .i64 0, .int .i64 0, .string { data := #[] }, .slice none 0 0, .slice none 0 0] 25)) (Obj.cells #[.int .i64 hx.k, .int .i64 hx.n, .string hx.s, .slice hx.A hx.la hx.lc, .slice hx.F hx.lf hx.fc] 25)).mono htb.bel.size)
  have hTB := htb.go (one_alloc _ (Obj.cells #[.int .i64 hx.k, .int .i64 hx.n, .string hx.s, .slice hx.A hx.la hx.lc, .slice hx.F hx.lf hx.fc] 25)) htb.sz
  have hins := InsAt.one (show Lies _ (fun _ => True) x hx from Lies.keep (fun _ _ _ => rfl) (fun _ _ _ => trivial) _ _ (HX.below htb.bel (Nat.le_refl _))) hxs (by omega : x.cnt ≤ 1000)
  have K1 := Lib.hid (target_any (fun b => b < w.heap.size) a h _ A m c p _ 1 1 [x] (fun b hb => by have := hb5.size; omega) (HS.out.below hb5 (Nat.le_refl _)) hsh (by omega) (hA.below hb5 (Nat.le_refl _)) hm hc hp hins rfl (by decide))
  have HTB := Lib.hid hTB
  have HCA := Lib.hid hcn
  have HCX := Lib.hid hxc
  have hsz0 : ((((w.alloc (Obj.cells #[.int .i64 h.k, .int .i64 h.n, .string h.s, .slice h.A h.la h.lc, .slice h.F h.lf h.fc] 25)).alloc (Obj.cells #[.int .i64 hx.k, .int .i64 hx.n, .string hx.s, .slice hx.A hx.la hx.lc, .slice hx.F hx.lf hx.fc] 25)).alloc (Obj.cells #[.int .i64 0, .int .i64 0, .string { data := #[] }, .slice none 0 0, .slice none 0 0] 25))).heap.size = w.heap.size + 1 + 1 + 1 := by simp
  rw [hsz0] at K1
  unfold Hd.val at *
  clear H HX hsh hxs hA hm htb hb5 hTB hins hsz0 hcn hxc
  go_enter Try.func51, Try.ntmps51
  go_wp2_with fail
  refine K1.out.mono ?_
  rintro e w1 ⟨b, h', er, rfl, hb1, hl1, ho1⟩
  have HT1 := Lib.hid (HTB.out.go hb1 HTB.out.sz)
  have HO1 := Lib.hid ho1
  clear hb1 hl1 ho1 K1 HTB
  go_upto_region 2 with fail
  have hb4 := one_alloc w1 (Obj.cells #[.int .i64 h'.k, .int .i64 h'.n, .string h'.s, .slice h'.A h'.la h'.lc, .slice h'.F h'.lf h'.fc] 25)
  generalize w1.alloc (Obj.cells #[.int .i64 h'.k, .int .i64 h'.n, .string h'.s, .slice h'.A h'.la h'.lc, .slice h'.F h'.lf h'.fc] 25) = w4 at hb4 ⊢
  have HT4 := Lib.hid (HT1.out.go hb4 HT1.out.sz)
  clear hb4 HT1
  by_cases he : er = 0
  case neg =>
    have he' := bq_no he
    have HNO : Hid ((¬ AllR a p [x] ∧ er = 1) ∨ (AllR a p [x] ∧ goV a p = none ∧ er = 8)) := Lib.hid (by
      rcases HO1.out with ⟨h1, h2, _⟩ | ⟨h1, h2, _, h3⟩ | ⟨_, h1, _⟩
      · exact .inl ⟨h1, h2⟩
      · exact .inr ⟨h1, h3, h2⟩
      · exact absurd h1 he)
    clear he
    have z0 := HT4.out.res.cell (show 0 < 5 by decide)
    have z1 := HT4.out.res.cell (show 1 < 5 by decide)
    have z2 := HT4.out.res.cell (show 2 < 5 by decide)
    have z3 := HT4.out.res.cell (show 3 < 5 by decide)
    have z4 := HT4.out.res.cell (show 4 < 5 by decide)
    have g0 := HT4.out.res.frozen 0
    have g1 := HT4.out.res.frozen 1
    have g2 := HT4.out.res.frozen 2
    have g3 := HT4.out.res.frozen 3
    have g4 := HT4.out.res.frozen 4
    simp only [hdAt, Hd.cells, List.getD_cons_succ, List.getD_cons_zero] at z0 z1 z2 z3 z4
    go_wp2_with fail
    refine bodyPost_ret (v := .tuple #[.agg #[.int .i64 0, .int .i64 0, .string ByteArray.empty, .slice none 0 0, .slice none 0 0], .int .i64 er]) (by simp [results, Try.results51, go_sem, z0, z1, z2, z3, z4]; try rfl) rfl ?_
    refine ⟨zeroVa, zeroHd, er, rfl, res_below HT4.out.bel (by omega), lies_zero _ _, ?_⟩
    rcases HNO.out with ⟨h1, h2⟩ | ⟨h1, h2, h3⟩
    · exact .inl ⟨h1, h2, rfl⟩
    · exact .inr (.inl ⟨h1, h2, h3, rfl⟩)
  subst he
  have HYES : Hid (AllR a p [x] ∧ goV a p = some b) := Lib.hid (by
    rcases HO1.out with ⟨_, h1, _⟩ | ⟨_, h1, _⟩ | ⟨h0, _, h1⟩
    · exact absurd h1 (by decide)
    · exact absurd h1 (by decide)
    · exact ⟨h0, h1⟩)
  have HSOM : Hid ((goV a p).isSome = true) := Lib.hid (by rw [HYES.out.2]; rfl)
  have hs4 := HT4.out.sz
  have KC := Lib.hid (changed_any (fun b => b < w.heap.size) x hx p a h w4 A m c (fun b hb => by omega) (HS.out.below HT4.out.bel (Nat.le_refl _)) (HSX.out.below HT4.out.bel (Nat.le_refl _)) (HA.out.below HT4.out.bel (Nat.le_refl _)) HYES.out.1.2.1.2 HM.out hc hp HSH.out HCA.out HXS.out HCX.out HSOM.out)
  unfold Hd.val at KC
  have q0 := HT4.out.bv.2 0 _ rfl
  have q1 := HT4.out.bv.2 1 _ rfl
  have q2 := HT4.out.bv.2 2 _ rfl
  have q3 := HT4.out.bv.2 3 _ rfl
  have q4 := HT4.out.bv.2 4 _ rfl
  have x0 := HT4.out.bx.2 0 _ rfl
  have x1 := HT4.out.bx.2 1 _ rfl
  have x2 := HT4.out.bx.2 2 _ rfl
  have x3 := HT4.out.bx.2 3 _ rfl
  have x4 := HT4.out.bx.2 4 _ rfl
  go_wp2_with fail
  refine KC.out.mono ?_
  rintro e w6 ⟨b6, h6, er, rfl, hb6, hl6, ho6⟩
  have HT6 := Lib.hid (HT4.out.go hb6 HT4.out.sz)
  have HL6 := Lib.hid hl6
  have HO6 := Lib.hid ho6
  clear hb6 hl6 ho6 KC x0 x1 x2 x3 x4 q0 q1 q2 q3 q4
  have z0 := HT6.out.res.cell (show 0 < 5 by decide)
  have z1 := HT6.out.res.cell (show 1 < 5 by decide)
  have z2 := HT6.out.res.cell (show 2 < 5 by decide)
  have z3 := HT6.out.res.cell (show 3 < 5 by decide)
  have z4 := HT6.out.res.cell (show 4 < 5 by decide)
  have g0 := HT6.out.res.frozen 0
  have g1 := HT6.out.res.frozen 1
  have g2 := HT6.out.res.frozen 2
  have g3 := HT6.out.res.frozen 3
  have g4 := HT6.out.res.frozen 4
  simp only [hdAt, Hd.cells, List.getD_cons_succ, List.getD_cons_zero] at z0 z1 z2 z3 z4
  go_wp2_with fail
  refine bodyPost_ret (v := .tuple #[.agg #[.int .i64 h6.k, .int .i64 h6.n, .string h6.s, .slice h6.A h6.la h6.lc, .slice h6.F h6.lf h6.fc], .int .i64 er]) (by simp [results, Try.results51, go_sem, z0, z1, z2, z3, z4]; try rfl) rfl ?_
  refine ⟨b6, h6, er, rfl, res_below HT6.out.bel (by omega), ?_, ?_⟩
  · exact Lies.keep (fun q hq _ => World.cell?_of_block (res_set (w := w) _ (fun e => by rw [e] at hq; omega))) (fun _ _ _ => trivial) _ _ HL6.out
  · rcases HO6.out with ⟨h1, h2, h3⟩ | ⟨h1, h2, h3⟩
    · exact .inr (.inr (.inl ⟨HYES.out.1, HSOM.out, h1, h2, h3⟩))
    · exact .inr (.inr (.inr ⟨HYES.out.1, HSOM.out, h1, h2, h3⟩))
end Go.Proofs.Ytmdlcalnncncjaa
