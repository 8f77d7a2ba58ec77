/- The reference's changed and Puts. -/
import Derived.Test.YtmdlcalnncncjaaPRefPut
import Derived.Test.YtmdlcalnncncjaaPRefMay
import Derived.Test.YtmdlcalnncncjaaPPutQ
set_option linter.unusedVariables false
set_option linter.unusedSimpArgs false
namespace Go.Proofs.Ytmdlcalnncncjaa
open Go.RowKit
/-- What the reference's changed answers of the value b. -/
def ChgS (S : Nat → Prop) (b : Va) (w : World) (e : Ending) (w' : World) : Prop := ∃ (b2 : Va) (h' : Hd) (er : Int), e = .returned (.tuple #[.agg #[.int .i64 h'.k, .int .i64 h'.n, .string h'.s, .slice h'.A h'.la h'.lc, .slice h'.F h'.lf h'.fc], .int .i64 er]) ∧ Below w.heap.size w w' ∧ Lies w' (fun x => S x ∨ w.heap.size ≤ x) b2 h' ∧
  ((b.R 12 ∧ er = 0 ∧ b2 = b) ∨ (¬ b.R 12 ∧ er = 5 ∧ b2 = zeroVa))
set_option maxHeartbeats 4000000 in
set_option maxRecDepth 100000 in
theorem changed_ref (S : Nat → Prop) (x : Va) (hx : Hd) (p : List St) (a : Va) (h : Hd) (w : World) (A : Option Addr) (m c d : Nat) (hSb : ∀ b, S b → b < w.heap.size) (H : Lies w S a h) (HX : Lies w S x hx) (hA : PathAt w A p) (hR : ∀ s ∈ p, StR s) (hm : m = p.length) (hc : m ≤ c) (hp : m ≤ 1000) (hsh : a.Sh) (hcn : a.cnt ≤ 400) (hxs : x.Sh) (had : a.R d) (hgo : (goV a p).isSome = true) :
    Calls Try.prog 90 #[h.val, .slice A m c, hx.val] w fun e w' => ChgS S (putV a p x) w e w' := by
  have htb := TB.start w h hx
  have hbs := htb.bel.size
  have K1 := Lib.hid (put_ref S x hx p a h _ A m c d (fun b hb => by have := hSb b hb; omega) (H.below htb.bel (Nat.le_refl _)) (HX.below htb.bel (Nat.le_refl _)) (hA.below htb.bel (Nat.le_refl _)) hR hm hc hp (by omega) had hgo)
  have HBO := Lib.hid (putV_both hxs p a hsh)
  have HSb := Lib.hid hSb
  unfold Hd.val at *
  generalize putV a p x = b at *
  clear H HX hA hR hm hsh hxs hgo htb hbs hSb had
  go_enter Try.func90, Try.ntmps90
  go_wp2_with fail
  refine K1.out.mono ?_
  rintro e w1 ⟨h', rfl, hl1, hb1⟩
  have HT1 := Lib.hid (three_blocks hb1)
  have HL1 := Lib.hid (show Lies w1 (fun b => S b ∨ w.heap.size + 3 ≤ b) b h' from Lies.keep (fun _ _ _ => rfl) (fun b hb _ => by simpa using hb) _ _ hl1)
  clear hl1 hb1 K1
  go_upto_region 1 with fail
  have hb4 := one_alloc w1 (Obj.cells #[.int .i64 h'.k, .int .i64 h'.n, .string h'.s, .slice h'.A h'.la h'.lc, .slice h'.F h'.lf h'.fc] 25)
  have hcx := Bx.start w1 h' 25
  generalize w1.alloc (Obj.cells #[.int .i64 h'.k, .int .i64 h'.n, .string h'.s, .slice h'.A h'.la h'.lc, .slice h'.F h'.lf h'.fc] 25) = w4 at hb4 hcx ⊢
  have HT4 := Lib.hid (HT1.out.go hb4 HT1.out.sz)
  have HL4 := Lib.hid (HL1.out.below hb4 (Nat.le_refl _))
  have HC4 := Lib.hid hcx
  have x0 := hcx.2 0 _ rfl
  have x1 := hcx.2 1 _ rfl
  have x2 := hcx.2 2 _ rfl
  have x3 := hcx.2 3 _ rfl
  have x4 := hcx.2 4 _ rfl
  clear hb4 hcx HT1 HL1
  have K2 := Lib.hid (rightref b _ h' w4 HL4.out HBO.out.1)
  unfold Hd.val at K2
  go_wp2_with fail
  refine K2.out.mono ?_
  rintro e w5 ⟨r, rfl, hr, hb5⟩
  have HR := Lib.hid hr
  have HT5 := Lib.hid (HT4.out.go hb5 HT4.out.sz)
  have HC5 := Lib.hid (HC4.out.go hb5 HC4.out.1)
  have HL5 := Lib.hid (HL4.out.below hb5 (Nat.le_refl _))
  have hs5 := HT5.out.sz
  clear hr hb5 K2 x0 x1 x2 x3 x4 HT4 HC4 HL4
  cases r
  · have z0 := HT5.out.res.cell (show 0 < 5 by decide)
    have z1 := HT5.out.res.cell (show 1 < 5 by decide)
    have z2 := HT5.out.res.cell (show 2 < 5 by decide)
    have z3 := HT5.out.res.cell (show 3 < 5 by decide)
    have z4 := HT5.out.res.cell (show 4 < 5 by decide)
    have g0 := HT5.out.res.frozen 0
    have g1 := HT5.out.res.frozen 1
    have g2 := HT5.out.res.frozen 2
    have g3 := HT5.out.res.frozen 3
    have g4 := HT5.out.res.frozen 4
    simp only [hdAt, Hd.cells, List.getD_cons_succ, List.getD_cons_zero] at z0 z1 z2 z3 z4
    go_wp2_with fail
    refine bodyPost_ret (v := .tuple #[.agg #[.int .i64 0, .int .i64 0, .string ByteArray.empty, .slice none 0 0, .slice none 0 0], .int .i64 5]) (by simp [results, Try.results90, go_sem, z0, z1, z2, z3, z4]; try rfl) rfl ?_
    exact ⟨zeroVa, zeroHd, 5, rfl, res_below HT5.out.bel (by omega), lies_zero _ _, .inr ⟨fun h => absurd (HR.out.2 h) (by decide), rfl, rfl⟩⟩
  have HY := Lib.hid (HR.out.1 rfl)
  have x0 := HC5.out.2 0 _ rfl
  have x1 := HC5.out.2 1 _ rfl
  have x2 := HC5.out.2 2 _ rfl
  have x3 := HC5.out.2 3 _ rfl
  have x4 := HC5.out.2 4 _ rfl
  have z0 := HT5.out.res.cell (show 0 < 5 by decide)
  have z1 := HT5.out.res.cell (show 1 < 5 by decide)
  have z2 := HT5.out.res.cell (show 2 < 5 by decide)
  have z3 := HT5.out.res.cell (show 3 < 5 by decide)
  have z4 := HT5.out.res.cell (show 4 < 5 by decide)
  have g0 := HT5.out.res.frozen 0
  have g1 := HT5.out.res.frozen 1
  have g2 := HT5.out.res.frozen 2
  have g3 := HT5.out.res.frozen 3
  have g4 := HT5.out.res.frozen 4
  simp only [hdAt, Hd.cells, List.getD_cons_succ, List.getD_cons_zero] at z0 z1 z2 z3 z4
  go_wp2_with fail
  refine bodyPost_ret (v := .tuple #[.agg #[.int .i64 h'.k, .int .i64 h'.n, .string h'.s, .slice h'.A h'.la h'.lc, .slice h'.F h'.lf h'.fc], .int .i64 0]) (by simp [results, Try.results90, go_sem, z0, z1, z2, z3, z4]; try rfl) rfl ?_
  refine ⟨b, h', 0, rfl, res_below HT5.out.bel (by omega), ?_, .inl ⟨HY.out, rfl, rfl⟩⟩
  exact Lies.keep (fun q hq _ => World.cell?_of_block (res_set (w := w) _ (fun e => by
    rcases hq with hq | hq
    · have := HSb.out _ hq; omega
    · omega))) (fun q hq _ => hq.elim .inl (fun h => .inr (by omega))) _ _ HL5.out
set_option maxHeartbeats 4000000 in
set_option maxRecDepth 100000 in
theorem puts_ref (a x : Va) (S S' : Nat → Prop) (h hx : Hd) (w : World) (A : Option Addr) (m c : Nat) (p : List St) (H : Lies w S a h) (HX : Lies w S' x hx) (hsh : a.Sh) (hcn : a.cnt ≤ 400) (hxs : x.Sh) (hA : PathAt w A p) (hm : m = p.length) (hc : m ≤ c) (hp : m ≤ 1000) (hkk : ∀ s ∈ p, s.k.size ≤ 4294967296) :
    Calls Try.prog 52 #[h.val, .slice A m c, hx.val] w fun e w' => PutQ a p x w e w' := by
  have HS := Lib.hid (show Lies w (fun b => b < w.heap.size) a h from Lies.keep (fun _ _ _ => rfl) (fun b _ hb => hb) _ _ H)
  have HSX := Lib.hid (show Lies w (fun b => b < w.heap.size) x hx from Lies.keep (fun _ _ _ => rfl) (fun b _ hb => hb) _ _ HX)
  have HSH := Lib.hid hsh
  have HXS := Lib.hid hxs
  have HA := Lib.hid hA
  have HM := Lib.hid hm
  have HKK := Lib.hid hkk
  have HCA := Lib.hid hcn
  have htb := TB.start w h hx
  have K1 := Lib.hid (rightref x _ hx _ (HSX.out.below htb.bel (Nat.le_refl _)) hxs)
  unfold Hd.val at *
  clear H HX hsh hxs hA hm htb hcn hkk
  go_enter Try.func52, Try.ntmps52
  go_wp2_with fail
  refine K1.out.mono ?_
  rintro e w1 ⟨r, rfl, hr, hb1⟩
  have HT1 := Lib.hid (three_blocks hb1)
  have HR := Lib.hid hr
  clear hb1 hr K1
  cases r
  · have z0 := HT1.out.res.cell (show 0 < 5 by decide)
    have z1 := HT1.out.res.cell (show 1 < 5 by decide)
    have z2 := HT1.out.res.cell (show 2 < 5 by decide)
    have z3 := HT1.out.res.cell (show 3 < 5 by decide)
    have z4 := HT1.out.res.cell (show 4 < 5 by decide)
    have g0 := HT1.out.res.frozen 0
    have g1 := HT1.out.res.frozen 1
    have g2 := HT1.out.res.frozen 2
    have g3 := HT1.out.res.frozen 3
    have g4 := HT1.out.res.frozen 4
    simp only [hdAt, Hd.cells, List.getD_cons_succ, List.getD_cons_zero] at z0 z1 z2 z3 z4
    go_wp2_with fail
    refine bodyPost_ret (v := .tuple #[.agg #[.int .i64 0, .int .i64 0, .string ⟨#[]⟩, .slice none 0 0, .slice none 0 0], .int .i64 1]) (by simp [results, Try.results52, go_sem, z0, z1, z2, z3, z4]; try rfl) rfl ?_
    exact ⟨zeroVa, zeroHd, 1, rfl, res_below HT1.out.bel (by omega), lies_zero _ _, .inl ⟨fun h => absurd (HR.out.2 (h.2.2 x (by simp))) (by decide), rfl, rfl⟩⟩
  have HXR := Lib.hid (HR.out.1 rfl)
  have hs1 := HT1.out.sz
  clear HR
  have q0 := HT1.out.bv.2 0 _ rfl
  have q1 := HT1.out.bv.2 1 _ rfl
  have q2 := HT1.out.bv.2 2 _ rfl
  have q3 := HT1.out.bv.2 3 _ rfl
  have q4 := HT1.out.bv.2 4 _ rfl
  have K2 := Lib.hid (may_ref (fun b => b < w.heap.size) a h w1 A m c p (HS.out.below HT1.out.bel (Nat.le_refl _)) HSH.out (by have := HCA.out; omega) (HA.out.below HT1.out.bel (Nat.le_refl _)) HM.out hp HKK.out)
  unfold Hd.val at K2
  go_wp2_with fail
  refine K2.out.mono ?_
  rintro e w2 ⟨b, h', er, rfl, hb2, hl2, ho2⟩
  have HTa := Lib.hid (HT1.out.go hb2 HT1.out.sz)
  have HO2 := Lib.hid ho2
  clear hb2 hl2 ho2 K2 HT1 q0 q1 q2 q3 q4
  go_upto_region 4 with fail
  have hb4 := one_alloc w2 (Obj.cells #[.int .i64 h'.k, .int .i64 h'.n, .string h'.s, .slice h'.A h'.la h'.lc, .slice h'.F h'.lf h'.fc] 25)
  generalize w2.alloc (Obj.cells #[.int .i64 h'.k, .int .i64 h'.n, .string h'.s, .slice h'.A h'.la h'.lc, .slice h'.F h'.lf h'.fc] 25) = w3 at hb4 ⊢
  have HT2 := Lib.hid (HTa.out.go hb4 HTa.out.sz)
  clear hb4 HTa
  by_cases he : er = 0
  case neg =>
    have he' := bq_no he
    have HNO : Hid ((¬ AllR a p [x] ∧ er = 1) ∨ (AllR a p [x] ∧ goV a p = none ∧ er = 8)) := Lib.hid (by
      rcases HO2.out with ⟨h1, h2, _⟩ | ⟨h1, h2, h3, h4, _⟩ | ⟨_, _, _, h1⟩
      · exact .inl ⟨fun h => h1 ⟨h.1, h.2.1⟩, h2⟩
      · exact .inr ⟨⟨h1, h2, fun y hy => by simp at hy; subst hy; exact HXR.out⟩, h3, h4⟩
      · exact absurd h1 he)
    clear he
    have z0 := HT2.out.res.cell (show 0 < 5 by decide)
    have z1 := HT2.out.res.cell (show 1 < 5 by decide)
    have z2 := HT2.out.res.cell (show 2 < 5 by decide)
    have z3 := HT2.out.res.cell (show 3 < 5 by decide)
    have z4 := HT2.out.res.cell (show 4 < 5 by decide)
    have g0 := HT2.out.res.frozen 0
    have g1 := HT2.out.res.frozen 1
    have g2 := HT2.out.res.frozen 2
    have g3 := HT2.out.res.frozen 3
    have g4 := HT2.out.res.frozen 4
    simp only [hdAt, Hd.cells, List.getD_cons_succ, List.getD_cons_zero] at z0 z1 z2 z3 z4
    go_wp2_with fail
    refine bodyPost_ret (v := .tuple #[.agg #[.int .i64 0, .int .i64 0, .string ⟨#[]⟩, .slice none 0 0, .slice none 0 0], .int .i64 er]) (by simp [results, Try.results52, go_sem, z0, z1, z2, z3, z4]; try rfl) rfl ?_
    refine ⟨zeroVa, zeroHd, er, rfl, res_below HT2.out.bel (by omega), lies_zero _ _, ?_⟩
    rcases HNO.out with ⟨h1, h2⟩ | ⟨h1, h2, h3⟩
    · exact .inl ⟨h1, h2, rfl⟩
    · exact .inr (.inl ⟨h1, h2, h3, rfl⟩)
  subst he
  have HYES : Hid (AllR a p [x] ∧ (goV a p).isSome = true) := Lib.hid (by
    rcases HO2.out with ⟨_, h2, _⟩ | ⟨_, _, _, h4, _⟩ | ⟨h1, h2, h3, _⟩
    · exact absurd h2 (by decide)
    · exact absurd h4 (by decide)
    · exact ⟨⟨h1, h2, fun y hy => by simp at hy; subst hy; exact HXR.out⟩, by rw [h3]; rfl⟩)
  have hs2 := HT2.out.sz
  have q0 := HT2.out.bv.2 0 _ rfl
  have q1 := HT2.out.bv.2 1 _ rfl
  have q2 := HT2.out.bv.2 2 _ rfl
  have q3 := HT2.out.bv.2 3 _ rfl
  have q4 := HT2.out.bv.2 4 _ rfl
  have x0 := HT2.out.bx.2 0 _ rfl
  have x1 := HT2.out.bx.2 1 _ rfl
  have x2 := HT2.out.bx.2 2 _ rfl
  have x3 := HT2.out.bx.2 3 _ rfl
  have x4 := HT2.out.bx.2 4 _ rfl
  have KC := Lib.hid (changed_ref (fun b => b < w.heap.size) x hx p a h w3 A m c 12 (fun b hb => by omega) (HS.out.below HT2.out.bel (Nat.le_refl _)) (HSX.out.below HT2.out.bel (Nat.le_refl _)) (HA.out.below HT2.out.bel (Nat.le_refl _)) HYES.out.1.2.1.2 HM.out hc hp HSH.out HCA.out HXS.out HYES.out.1.1 HYES.out.2)
  unfold Hd.val at KC
  go_wp2_with fail
  refine KC.out.mono ?_
  rintro e w6 ⟨b6, h6, er, rfl, hb6, hl6, ho6⟩
  have HT6 := Lib.hid (HT2.out.go hb6 HT2.out.sz)
  have HL6 := Lib.hid hl6
  have HO6 := Lib.hid ho6
  clear hb6 hl6 ho6 KC x0 x1 x2 x3 x4 q0 q1 q2 q3 q4
  have z0 := HT6.out.res.cell (show 0 < 5 by decide)
  have z1 := HT6.out.res.cell (show 1 < 5 by decide)
  have z2 := HT6.out.res.cell (show 2 < 5 by decide)
  have z3 := HT6.out.res.cell (show 3 < 5 by decide)
  have z4 := HT6.out.res.cell (show 4 < 5 by decide)
  have g0 := HT6.out.res.frozen 0
  have g1 := HT6.out.res.frozen 1
  have g2 := HT6.out.res.frozen 2
  have g3 := HT6.out.res.frozen 3
  have g4 := HT6.out.res.frozen 4
  simp only [hdAt, Hd.cells, List.getD_cons_succ, List.getD_cons_zero] at z0 z1 z2 z3 z4
  go_wp2_with fail
  refine bodyPost_ret (v := .tuple #[.agg #[.int .i64 h6.k, .int .i64 h6.n, .string h6.s, .slice h6.A h6.la h6.lc, .slice h6.F h6.lf h6.fc], .int .i64 er]) (by simp [results, Try.results52, go_sem, z0, z1, z2, z3, z4]; try rfl) rfl ?_
  refine ⟨b6, h6, er, rfl, res_below HT6.out.bel (by omega), ?_, ?_⟩
  · exact Lies.keep (fun q hq _ => World.cell?_of_block (res_set (w := w) _ (fun e => by rw [e] at hq; omega))) (fun _ _ _ => trivial) _ _ HL6.out
  · rcases HO6.out with ⟨h1, h2, h3⟩ | ⟨h1, h2, h3⟩
    · exact .inr (.inr (.inl ⟨HYES.out.1, HYES.out.2, h1, h2, h3⟩))
    · exact .inr (.inr (.inr ⟨HYES.out.1, HYES.out.2, h1, h2, h3⟩))
end Go.Proofs.Ytmdlcalnncncjaa
