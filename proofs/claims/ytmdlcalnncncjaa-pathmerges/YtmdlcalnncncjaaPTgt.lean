/- path.target and path.Find. -/
import Derived.Test.YtmdlcalnncncjaaPFol
import Derived.Deep.CutRange
set_option linter.unusedVariables false
set_option linter.unusedSimpArgs false
namespace Go.Proofs.Ytmdlcalnncncjaa
open Go.RowKit
/-- Values that are to come in. -/
def InsAt (w : World) (B : Option Addr) (ins : List Va) : Prop := ∀ (i : Nat) x, ins[i]? = some x → ∃ ad u, B = some ad ∧ (ad.add (i * 5)).block < w.heap.size ∧ Lies w (fun _ => True) x u ∧ At5 w (ad.add (i * 5)) u ∧ x.Sh ∧ x.cnt ≤ 1000
theorem InsAt.nil (w : World) (B : Option Addr) : InsAt w B [] := fun i x h => by simp at h
theorem InsAt.below {w w' : World} {B : Option Addr} {ins : List Va} {M : Nat} (h : InsAt w B ins) (hb : Below M w w') (hM : w.heap.size ≤ M) : InsAt w' B ins := by
  intro i x hx
  obtain ⟨ad, u, e, h1, h2, h3, h4⟩ := h i x hx
  exact ⟨ad, u, e, by have := hb.size; omega, h2.below hb hM, h3.below hb (by omega), h4⟩
/-- All is right. -/
def AllR (a : Va) (p : List St) (ins : List Va) : Prop := a.R 12 ∧ PathR p ∧ ∀ x ∈ ins, x.R 12
/-- What target answers. -/
def TgtR (S : Nat → Prop) (a : Va) (p : List St) (ins : List Va) (w : World) (e : Ending) (w' : World) : Prop := ∃ (b : Va) (h' : Hd) (er : Int), e = .returned (.tuple #[.agg #[.int .i64 h'.k, .int .i64 h'.n, .string h'.s, .slice h'.A h'.la h'.lc, .slice h'.F h'.lf h'.fc], .int .i64 er]) ∧ Below w.heap.size w w' ∧ Lies w' S b h' ∧
  ((¬ AllR a p ins ∧ er = 1 ∧ b = zeroVa) ∨ (AllR a p ins ∧ er = 8 ∧ b = zeroVa ∧ goV a p = none) ∨ (AllR a p ins ∧ er = 0 ∧ goV a p = some b))
theorem TgtR.no {S : Nat → Prop} {a : Va} {p : List St} {ins : List Va} {w w' : World} (h : ¬ AllR a p ins) (hb : Below w.heap.size w w') : TgtR S a p ins w (.returned (.tuple #[.agg #[.int .i64 0, .int .i64 0, .string ⟨#[]⟩, .slice none 0 0, .slice none 0 0], .int .i64 1])) w' :=
  ⟨zeroVa, zeroHd, 1, rfl, hb, lies_zero _ _, .inl ⟨h, rfl, rfl⟩⟩
theorem InsR_next {ins : List Va} {i : Nat} {x : Va} (h : ∀ y ∈ ins.take i, y.R 12) (hx : ins[i]? = some x) (hr : x.R 12) : ∀ y ∈ ins.take (i + 1), y.R 12 := by
  intro y hy
  rw [take_next hx] at hy
  rcases List.mem_append.1 hy with hy | hy
  · exact h y hy
  · simp at hy; subst hy; exact hr
set_option maxHeartbeats 4000000 in
set_option maxRecDepth 100000 in
theorem target_any (S : Nat → Prop) (a : Va) (h : Hd) (w : World) (A : Option Addr) (m c : Nat) (p : List St) (B : Option Addr) (bn bc : Nat) (ins : List Va) (hSb : ∀ b, S b → b < w.heap.size) (H : Lies w S a h) (hsh : a.Sh) (hcn : a.cnt ≤ 1000) (hA : PathAt w A p) (hm : m = p.length) (hc : m ≤ c) (hp : m ≤ 1000) (hB : InsAt w B ins) (hbn : bn = ins.length) (hbl : bn ≤ 1000) :
    Calls Try.prog 86 #[h.val, .slice A m c, .slice B bn bc] w fun e w' => TgtR S a p ins w e w' := by
  have HH := Lib.hid H
  have HSH := Lib.hid hsh
  have HCN := Lib.hid hcn
  have HA := Lib.hid hA
  have HM := Lib.hid hm
  have HIN := Lib.hid hB
  have HSb := Lib.hid hSb
  have HBN := Lib.hid hbn
  unfold Hd.val at *
  have hb2 := two_allocs w (Obj.cells #[.int .i64 h.k, .int .i64 h.n, .string h.s, .slice h.A h.la h.lc, .slice h.F h.lf h.fc] 25) (Obj.cells #[.int .i64 0, .int .i64 0, .string { data := #[] }, .slice none 0 0, .slice none 0 0] 25)
  have K1 := Lib.hid (right_prog a S h _ (H.below hb2 (Nat.le_refl _)) hsh hcn)
  unfold Hd.val at K1
  clear H hsh hcn hA hB hSb hb2 hm hbn
  go_enter Try.func86, Try.ntmps86
  go_wp2_with fail
  refine K1.out.mono ?_
  rintro e w1 ⟨r, rfl, hr, hb1⟩
  obtain ⟨hb2, hbx, hres, hsz⟩ := two_blocks hb1
  have HB := Lib.hid hb2
  have HR := Lib.hid hr
  have HBX := Lib.hid hbx
  have HRES := Lib.hid hres
  clear hb1 hb2 hr hbx hres K1
  cases r
  · have HNO : Hid (¬ AllR a p ins) := Lib.hid (fun h => absurd (HR.out.2 h.1) (by decide))
    have z0 := HRES.out.cell (show 0 < 5 by decide)
    have z1 := HRES.out.cell (show 1 < 5 by decide)
    have z2 := HRES.out.cell (show 2 < 5 by decide)
    have z3 := HRES.out.cell (show 3 < 5 by decide)
    have z4 := HRES.out.cell (show 4 < 5 by decide)
    have g0 := HRES.out.frozen 0
    have g1 := HRES.out.frozen 1
    have g2 := HRES.out.frozen 2
    have g3 := HRES.out.frozen 3
    have g4 := HRES.out.frozen 4
    simp only [hdAt, Hd.cells, List.getD_cons_succ, List.getD_cons_zero] at z0 z1 z2 z3 z4
    go_wp2_with fail
    refine bodyPost_ret (v := .tuple #[.agg #[.int .i64 0, .int .i64 0, .string ⟨#[]⟩, .slice none 0 0, .slice none 0 0], .int .i64 1]) (by simp [results, Try.results86, go_sem, z0, z1, z2, z3, z4]; try rfl) rfl ?_
    exact TgtR.no HNO.out (res_below HB.out (Nat.le_succ _))
  have HY := Lib.hid (HR.out.1 rfl)
  clear HR
  have KP := Lib.hid (path_right p A m c w1 HM.out (by have := HM.out; unfold maxLen; omega) (HA.out.below HB.out (Nat.le_refl _)))
  go_wp2_with fail
  refine KP.out.mono ?_
  rintro e w2 ⟨r, rfl, hr, hb2⟩
  have HR := Lib.hid hr
  have HB2 := Lib.hid (HB.out.trans (hb2.mono HB.out.size))
  have hsz2 : w.heap.size + 2 ≤ w2.heap.size := by have := hb2.size; omega
  have HBX2 := Lib.hid (HBX.out.go hb2 HBX.out.1)
  have HRES2 := Lib.hid (rowIs_below HRES.out hb2 (by omega))
  clear hb2 hr KP HBX HRES HB
  cases r
  · have HNO : Hid (¬ AllR a p ins) := Lib.hid (fun h => absurd (HR.out.2 h.2.1) (by decide))
    have z0 := HRES2.out.cell (show 0 < 5 by decide)
    have z1 := HRES2.out.cell (show 1 < 5 by decide)
    have z2 := HRES2.out.cell (show 2 < 5 by decide)
    have z3 := HRES2.out.cell (show 3 < 5 by decide)
    have z4 := HRES2.out.cell (show 4 < 5 by decide)
    have g0 := HRES2.out.frozen 0
    have g1 := HRES2.out.frozen 1
    have g2 := HRES2.out.frozen 2
    have g3 := HRES2.out.frozen 3
    have g4 := HRES2.out.frozen 4
    simp only [hdAt, Hd.cells, List.getD_cons_succ, List.getD_cons_zero] at z0 z1 z2 z3 z4
    go_wp2_with fail
    refine bodyPost_ret (v := .tuple #[.agg #[.int .i64 0, .int .i64 0, .string ⟨#[]⟩, .slice none 0 0, .slice none 0 0], .int .i64 1]) (by simp [results, Try.results86, go_sem, z0, z1, z2, z3, z4]; try rfl) rfl ?_
    exact TgtR.no HNO.out (res_below HB2.out (Nat.le_succ _))
  have HYP := Lib.hid (HR.out.1 rfl)
  clear HR
  go_wp2_with fail
  go_loopw [23] (fun iv wr => ∃ i : Nat, iv = .int .i64 i ∧ i ≤ bn ∧ (∀ x ∈ ins.take i, x.R 12) ∧ Below w2.heap.size w2 wr) (fun iv _ => bn - (intOf iv).toNat)
  case atStart => exact ⟨0, rfl, Nat.zero_le _, by simp, Below.refl _ _⟩
  case round =>
    obtain ⟨i, rfl, hi, hall, hbr⟩ := hrel
    have HALL := Lib.hid hall
    have HBR := Lib.hid hbr
    have HBW := Lib.hid (HB2.out.trans (hbr.mono HB2.out.size))
    have hszr := hbr.size
    have HBXr := Lib.hid (HBX2.out.go hbr HBX2.out.1)
    have HRESr := Lib.hid (rowIs_below HRES2.out hbr (by omega))
    clear hall hbr
    by_cases hlt : i < bn
    · obtain ⟨x, hx⟩ : ∃ x, ins[i]? = some x := ⟨ins[i]'(by have := HBN.out; omega), List.getElem?_eq_getElem (by have := HBN.out; omega)⟩
      obtain ⟨ad, u, e, hab, hLu, hat, hxs, hxc⟩ := (HIN.out.below HBW.out (Nat.le_refl _)) i x hx
      subst e
      obtain ⟨k0, k1, k2, k3, k4⟩ := hat
      have hba := one_alloc wr (Obj.cells #[.int .i64 u.k, .int .i64 u.n, .string u.s, .slice u.A u.la u.lc, .slice u.F u.lf u.fc] 25)
      have KX := Lib.hid (right_prog x _ u _ (hLu.below hba (Nat.le_refl _)) hxs hxc)
      unfold Hd.val at KX
      have HX := Lib.hid hx
      clear hLu hxs hxc hx hba
      go_wp2_with fail
      refine KX.out.mono ?_
      rintro e w3 ⟨r, rfl, hr, hb3⟩
      have HR := Lib.hid hr
      have hb3w := (after_alloc hb3).1
      have HB3 := Lib.hid hb3w
      have HRES3 := Lib.hid (rowIs_below HRESr.out hb3w (by omega))
      clear hb3 hb3w hr KX
      cases r
      · have HNO : Hid (¬ AllR a p ins) := Lib.hid (fun h => absurd (HR.out.2 (h.2.2 x (List.mem_of_getElem? HX.out))) (by decide))
        have z0 := HRES3.out.cell (show 0 < 5 by decide)
        have z1 := HRES3.out.cell (show 1 < 5 by decide)
        have z2 := HRES3.out.cell (show 2 < 5 by decide)
        have z3 := HRES3.out.cell (show 3 < 5 by decide)
        have z4 := HRES3.out.cell (show 4 < 5 by decide)
        have g0 := HRES3.out.frozen 0
        have g1 := HRES3.out.frozen 1
        have g2 := HRES3.out.frozen 2
        have g3 := HRES3.out.frozen 3
        have g4 := HRES3.out.frozen 4
        simp only [hdAt, Hd.cells, List.getD_cons_succ, List.getD_cons_zero] at z0 z1 z2 z3 z4
        go_wp2_with fail
        refine bodyPost_ret (v := .tuple #[.agg #[.int .i64 0, .int .i64 0, .string ⟨#[]⟩, .slice none 0 0, .slice none 0 0], .int .i64 1]) (by simp [results, Try.results86, go_sem, z0, z1, z2, z3, z4]; try rfl) rfl ?_
        exact TgtR.no HNO.out (res_below (HBW.out.trans (HB3.out.mono HBW.out.size)) (Nat.le_succ _))
      · have HN := Lib.hid (InsR_next HALL.out HX.out (HR.out.1 rfl))
        go_wp2_with fail
        exact ⟨⟨i + 1, by go_num, by omega, HN.out, HBR.out.trans (HB3.out.mono HBR.out.size)⟩, by simp [intOf]; omega⟩
    · have HYA : Hid (AllR a p ins) := Lib.hid ⟨HY.out, HYP.out, by have h1 := HALL.out; have h2 := HBN.out; rwa [List.take_of_length_le (by omega)] at h1⟩
      have b0 := HBXr.out.2 0 _ rfl
      have b1 := HBXr.out.2 1 _ rfl
      have b2 := HBXr.out.2 2 _ rfl
      have b3 := HBXr.out.2 3 _ rfl
      have b4 := HBXr.out.2 4 _ rfl
      have KF := Lib.hid (follow_any S p a h wr A m c (fun b hb => by have := HSb.out b hb; omega) (HH.out.below HBW.out (Nat.le_refl _)) (HA.out.below HBW.out (Nat.le_refl _)) HYP.out.2 HM.out hc hp HCN.out)
      unfold Hd.val at KF
      go_wp2_with fail
      refine KF.out.mono ?_
      rintro e w3 ⟨b, h', ok, rfl, hb3, hl3, ho3⟩
      have HB3 := Lib.hid (HBW.out.trans (hb3.mono HBW.out.size))
      have hsz3 := hb3.size
      have HRES3 := Lib.hid (rowIs_below HRESr.out hb3 (by omega))
      have HL3 := Lib.hid hl3
      have HO3 := Lib.hid ho3
      clear hb3 hl3 ho3 KF
      go_upto_region 10 with fail
      have hb4 := one_alloc w3 (Obj.cells #[.int .i64 h'.k, .int .i64 h'.n, .string h'.s, .slice h'.A h'.la h'.lc, .slice h'.F h'.lf h'.fc] 25)
      have hcx := Bx.start w3 h' 25
      generalize w3.alloc (Obj.cells #[.int .i64 h'.k, .int .i64 h'.n, .string h'.s, .slice h'.A h'.la h'.lc, .slice h'.F h'.lf h'.fc] 25) = w4 at hb4 hcx ⊢
      have HB4 := Lib.hid (HB3.out.trans (hb4.mono HB3.out.size))
      have HRES4 := Lib.hid (rowIs_below HRES3.out hb4 (by omega))
      have HL4 := Lib.hid (HL3.out.below hb4 (Nat.le_refl _))
      have x0 := hcx.2 0 _ rfl
      have x1 := hcx.2 1 _ rfl
      have x2 := hcx.2 2 _ rfl
      have x3 := hcx.2 3 _ rfl
      have x4 := hcx.2 4 _ rfl
      have hxl := hcx.1
      have hs4 := hb4.size
      clear hb4 hcx HB3 HRES3 HL3
      have z0 := HRES4.out.cell (show 0 < 5 by decide)
      have z1 := HRES4.out.cell (show 1 < 5 by decide)
      have z2 := HRES4.out.cell (show 2 < 5 by decide)
      have z3 := HRES4.out.cell (show 3 < 5 by decide)
      have z4 := HRES4.out.cell (show 4 < 5 by decide)
      have g0 := HRES4.out.frozen 0
      have g1 := HRES4.out.frozen 1
      have g2 := HRES4.out.frozen 2
      have g3 := HRES4.out.frozen 3
      have g4 := HRES4.out.frozen 4
      simp only [hdAt, Hd.cells, List.getD_cons_succ, List.getD_cons_zero] at z0 z1 z2 z3 z4
      cases ok
      · have HGN : Hid (goV a p = none) := Lib.hid (by rcases HO3.out with ⟨h1, _⟩ | ⟨_, h2, _⟩; cases h1; exact h2)
        go_wp2_with fail
        refine bodyPost_ret (v := .tuple #[.agg #[.int .i64 0, .int .i64 0, .string ⟨#[]⟩, .slice none 0 0, .slice none 0 0], .int .i64 8]) (by simp [results, Try.results86, go_sem, z0, z1, z2, z3, z4]; try rfl) rfl ?_
        exact ⟨zeroVa, zeroHd, 8, rfl, res_below HB4.out (Nat.le_succ _), lies_zero _ _, .inr (.inl ⟨HYA.out, rfl, rfl, HGN.out⟩)⟩
      · have HGS : Hid (goV a p = some b) := Lib.hid (by rcases HO3.out with ⟨_, h2⟩ | ⟨h1, _⟩; exact h2; cases h1)
        go_wp2_with fail
        refine bodyPost_ret (v := .tuple #[.agg #[.int .i64 h'.k, .int .i64 h'.n, .string h'.s, .slice h'.A h'.la h'.lc, .slice h'.F h'.lf h'.fc], .int .i64 0]) (by simp [results, Try.results86, go_sem, z0, z1, z2, z3, z4]; try rfl) rfl ?_
        refine ⟨b, h', 0, rfl, res_below HB4.out (Nat.le_succ _), ?_, .inr (.inr ⟨HYA.out, rfl, HGS.out⟩)⟩
        exact Lies.keep (fun q hq _ => World.cell?_of_block (res_set (w := w) _ (fun e => by have := HSb.out _ hq; omega))) (fun _ h _ => h) _ _ HL4.out
end Go.Proofs.Ytmdlcalnncncjaa
