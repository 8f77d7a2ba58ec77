/- The reference's Add. -/
import Derived.Test.YtmdlcalnncncjaaPAddP
import Derived.Test.YtmdlcalnncncjaaPRefPuts
set_option linter.unusedVariables false
set_option linter.unusedSimpArgs false
namespace Go.Proofs.Ytmdlcalnncncjaa
open Go.RowKit
/-- The joined list in memory. -/
theorem lies_joinS {w0 w6 w7 : World} {S S2 : Nat → Prop} {l ins : List Va} {us vs : List Hd} {h' : Hd} {A' : Option Addr} {n c' base xb : Nat} (hk : h'.k = 4) (hn : h'.n = 0) (hs : h'.s = ByteArray.empty) (hlf : h'.lf = 0) (hn2 : n = (l ++ ins).length) (hlm : (l ++ ins).length ≤ maxLen)
    (hu : LiesL w0 S l us) (hv : LiesL w0 S ins vs) (hS : ∀ b, S b → b < w0.heap.size) (hS7 : ∀ b, S b → w7.heap[b]? = w0.heap[b]?) (h67 : w6.heap.size ≤ w7.heap.size) (hown : w6.ownsRow base 25 5 (.slice A' n c') n (us.flatMap Hd.cells ++ vs.flatMap Hd.cells)) (hxb : xb < base) (hb7 : ∀ b, b ≠ xb → b < w6.heap.size → w7.heap[b]? = w6.heap[b]?) (hA : ∀ b, S b → S2 b) (hB : ∀ b, base ≤ b → b < w6.heap.size → S2 b) :
    Lies w7 S2 (.mk 4 0 ByteArray.empty (l ++ ins) [] []) ⟨h'.k, h'.n, h'.s, A', n, c', h'.F, h'.lf, h'.fc⟩ := by
  have own7 : w7.ownsRow base 25 5 (.slice A' n c') n ((us ++ vs).flatMap Hd.cells) := own_block (by rw [List.flatMap_append]; exact hown) fun g hg => hb7 g (by have := (own_lo hown hg).1; omega) (own_lo hown hg).2
  have cap := own_cap own7
  unfold Lies
  refine ⟨⟨hk, hn, hs, hn2, hlf, rfl⟩, ⟨by decide, by decide, by decide, by simp, hlm, by decide, by show (l ++ ins).length ≤ c'; omega, Nat.zero_le _⟩, ⟨us ++ vs, row_of_own Hd.cells (us ++ vs) cells_len own7 (fun g hg => hB g (own_lo hown hg).1 (own_lo hown hg).2) (.inr (by decide)), LiesL_mk (by simp [LiesL_len hu, LiesL_len hv]) fun i y u hy hu2 => ?_⟩, ⟨[], fun h => by simp at h, by unfold LiesL; rfl⟩⟩
  have hl := LiesL_len hu
  have hk2 : ∀ y u, Lies w0 S y u → Lies w7 S2 y u := fun y u h => Lies.keep (fun q hq _ => World.cell?_of_block (hS7 _ hq)) (fun b hb _ => hA b hb) y u h
  by_cases e : i < l.length
  · rw [List.getElem?_append_left e] at hy
    rw [List.getElem?_append_left (by omega)] at hu2
    obtain ⟨u', hu', hl'⟩ := LiesL_at hu hy
    rw [hu2] at hu'
    cases hu'
    exact hk2 y u hl'
  · rw [List.getElem?_append_right (by omega)] at hy
    rw [List.getElem?_append_right (by omega), hl] at hu2
    obtain ⟨u', hu', hl'⟩ := LiesL_at hv hy
    rw [hu2] at hu'
    cases hu'
    exact hk2 y u hl'
set_option maxHeartbeats 4000000 in
set_option maxRecDepth 100000 in
theorem may_refS (S : Nat → Prop) (a : Va) (h : Hd) (w : World) (A : Option Addr) (m c : Nat) (p : List St) (hSb : ∀ b, S b → b < w.heap.size) (H : Lies w S a h) (hsh : a.Sh) (hcn : a.cnt ≤ 1000) (hA : PathAt w A p) (hm : m = p.length) (hp : m ≤ 1000) (hkk : ∀ s ∈ p, s.k.size ≤ 4294967296) :
    Calls Try.prog 89 #[h.val, .slice A m c] w fun e w' => MayR S a p w e w' := by
  have HS := Lib.hid H
  have HSb := Lib.hid hSb
  have HSH := Lib.hid hsh
  have HCN := Lib.hid hcn
  have HA := Lib.hid hA
  have HM := Lib.hid hm
  have HKK := Lib.hid hkk
  unfold Hd.val at *
  have hb2 := two_allocs w (Obj.cells #[.int .i64 h.k, .int .i64 h.n, .string h.s, .slice h.A h.la h.lc, .slice h.F h.lf h.fc] 25) (Obj.cells #[.int .i64 0, .int .i64 0, .string { data := #[] }, .slice none 0 0, .slice none 0 0] 25)
  have K1 := Lib.hid (rightref a S h _ (H.below hb2 (Nat.le_refl _)) hsh)
  unfold Hd.val at K1
  clear H hSb hsh hcn hA hb2 hm hkk
  go_enter Try.func89, Try.ntmps89
  go_wp2_with fail
  refine K1.out.mono ?_
  rintro e w1 ⟨r, rfl, hr, hb1⟩
  obtain ⟨hb2, hbx, hres, hsz⟩ := two_blocks hb1
  have HB := Lib.hid hb2
  have HR := Lib.hid hr
  have HBX := Lib.hid hbx
  have HRES := Lib.hid hres
  clear hb1 hb2 hr hbx hres K1
  cases r
  · have HNO : Hid (¬ (a.R 12 ∧ PathR p)) := Lib.hid (fun h => absurd (HR.out.2 h.1) (by decide))
    have z0 := HRES.out.cell (show 0 < 5 by decide)
    have z1 := HRES.out.cell (show 1 < 5 by decide)
    have z2 := HRES.out.cell (show 2 < 5 by decide)
    have z3 := HRES.out.cell (show 3 < 5 by decide)
    have z4 := HRES.out.cell (show 4 < 5 by decide)
    have g0 := HRES.out.frozen 0
    have g1 := HRES.out.frozen 1
    have g2 := HRES.out.frozen 2
    have g3 := HRES.out.frozen 3
    have g4 := HRES.out.frozen 4
    simp only [hdAt, Hd.cells, List.getD_cons_succ, List.getD_cons_zero] at z0 z1 z2 z3 z4
    go_wp2_with fail
    refine bodyPost_ret (v := .tuple #[.agg #[.int .i64 0, .int .i64 0, .string ⟨#[]⟩, .slice none 0 0, .slice none 0 0], .int .i64 1]) (by simp [results, Try.results89, go_sem, z0, z1, z2, z3, z4]; try rfl) rfl ?_
    exact MayR.no HNO.out (res_below HB.out (Nat.le_succ _))
  have HY := Lib.hid (HR.out.1 rfl)
  clear HR
  have KP := Lib.hid (path_right_ref p A m c w1 HM.out (by have := HM.out; unfold maxLen; omega) (HA.out.below HB.out (Nat.le_refl _)) HKK.out)
  go_wp2_with fail
  refine KP.out.mono ?_
  rintro e w2 ⟨r, rfl, hr, hb2⟩
  have HR := Lib.hid hr
  have HB2 := Lib.hid (HB.out.trans (hb2.mono HB.out.size))
  have hsz2 : w.heap.size + 2 ≤ w2.heap.size := by have := hb2.size; omega
  have HBX2 := Lib.hid (HBX.out.go hb2 HBX.out.1)
  have HRES2 := Lib.hid (rowIs_below HRES.out hb2 (by omega))
  clear hb2 hr KP HBX HRES HB
  cases r
  · have HNO : Hid (¬ (a.R 12 ∧ PathR p)) := Lib.hid (fun h => absurd (HR.out.2 h.2) (by decide))
    have z0 := HRES2.out.cell (show 0 < 5 by decide)
    have z1 := HRES2.out.cell (show 1 < 5 by decide)
    have z2 := HRES2.out.cell (show 2 < 5 by decide)
    have z3 := HRES2.out.cell (show 3 < 5 by decide)
    have z4 := HRES2.out.cell (show 4 < 5 by decide)
    have g0 := HRES2.out.frozen 0
    have g1 := HRES2.out.frozen 1
    have g2 := HRES2.out.frozen 2
    have g3 := HRES2.out.frozen 3
    have g4 := HRES2.out.frozen 4
    simp only [hdAt, Hd.cells, List.getD_cons_succ, List.getD_cons_zero] at z0 z1 z2 z3 z4
    go_wp2_with fail
    refine bodyPost_ret (v := .tuple #[.agg #[.int .i64 0, .int .i64 0, .string ⟨#[]⟩, .slice none 0 0, .slice none 0 0], .int .i64 1]) (by simp [results, Try.results89, go_sem, z0, z1, z2, z3, z4]; try rfl) rfl ?_
    exact MayR.no HNO.out (res_below HB2.out (Nat.le_succ _))
  have HYP := Lib.hid (HR.out.1 rfl)
  clear HR
  have b0 := HBX2.out.2 0 _ rfl
  have b1 := HBX2.out.2 1 _ rfl
  have b2 := HBX2.out.2 2 _ rfl
  have b3 := HBX2.out.2 3 _ rfl
  have b4 := HBX2.out.2 4 _ rfl
  have KF := Lib.hid (find_refS S a h w2 (fun b hb => by have := HSb.out b hb; omega) A m c p (HS.out.below HB2.out (Nat.le_refl _)) HCN.out (HA.out.below HB2.out (Nat.le_refl _)) HM.out hp HYP.out.2)
  unfold Hd.val at KF
  go_wp2_with fail
  refine KF.out.mono ?_
  rintro e w3 ⟨b, h', ok, rfl, hb3, hl3, ho3⟩
  have HB3 := Lib.hid (HB2.out.trans (hb3.mono HB2.out.size))
  have hsz3 := hb3.size
  have HRES3 := Lib.hid (rowIs_below HRES2.out hb3 (by omega))
  have HO3 := Lib.hid ho3
  clear hb3 ho3 KF
  go_upto_region 4 with fail
  have hb4 := one_alloc w3 (Obj.cells #[.int .i64 h'.k, .int .i64 h'.n, .string h'.s, .slice h'.A h'.la h'.lc, .slice h'.F h'.lf h'.fc] 25)
  have hcx := Bx.start w3 h' 25
  generalize w3.alloc (Obj.cells #[.int .i64 h'.k, .int .i64 h'.n, .string h'.s, .slice h'.A h'.la h'.lc, .slice h'.F h'.lf h'.fc] 25) = w4 at hb4 hcx ⊢
  have HB4 := Lib.hid (HB3.out.trans (hb4.mono HB3.out.size))
  have HRES4 := Lib.hid (rowIs_below HRES3.out hb4 (by omega))
  have HL4 := Lib.hid (hl3.below hb4 (Nat.le_refl _))
  have x0 := hcx.2 0 _ rfl
  have x1 := hcx.2 1 _ rfl
  have x2 := hcx.2 2 _ rfl
  have x3 := hcx.2 3 _ rfl
  have x4 := hcx.2 4 _ rfl
  have hxl := hcx.1
  have hs4 := hb4.size
  clear hb4 hcx HB3 HRES3 hl3
  have z0 := HRES4.out.cell (show 0 < 5 by decide)
  have z1 := HRES4.out.cell (show 1 < 5 by decide)
  have z2 := HRES4.out.cell (show 2 < 5 by decide)
  have z3 := HRES4.out.cell (show 3 < 5 by decide)
  have z4 := HRES4.out.cell (show 4 < 5 by decide)
  have g0 := HRES4.out.frozen 0
  have g1 := HRES4.out.frozen 1
  have g2 := HRES4.out.frozen 2
  have g3 := HRES4.out.frozen 3
  have g4 := HRES4.out.frozen 4
  simp only [hdAt, Hd.cells, List.getD_cons_succ, List.getD_cons_zero] at z0 z1 z2 z3 z4
  cases ok
  · have HGN : Hid (goV a p = none) := Lib.hid (by rcases HO3.out with ⟨h1, _⟩ | ⟨_, h2, _⟩; cases h1; exact h2)
    go_wp2_with fail
    refine bodyPost_ret (v := .tuple #[.agg #[.int .i64 0, .int .i64 0, .string ⟨#[]⟩, .slice none 0 0, .slice none 0 0], .int .i64 8]) (by simp [results, Try.results89, go_sem, z0, z1, z2, z3, z4]; try rfl) rfl ?_
    exact ⟨zeroVa, zeroHd, 8, rfl, res_below HB4.out (Nat.le_succ _), lies_zero _ _, .inr (.inl ⟨HY.out, HYP.out, HGN.out, rfl, rfl⟩)⟩
  · have HGS : Hid (goV a p = some b) := Lib.hid (by rcases HO3.out with ⟨_, h2⟩ | ⟨h1, _⟩; exact h2; cases h1)
    go_wp2_with fail
    refine bodyPost_ret (v := .tuple #[.agg #[.int .i64 h'.k, .int .i64 h'.n, .string h'.s, .slice h'.A h'.la h'.lc, .slice h'.F h'.lf h'.fc], .int .i64 0]) (by simp [results, Try.results89, go_sem, z0, z1, z2, z3, z4]; try rfl) rfl ?_
    refine ⟨b, h', 0, rfl, res_below HB4.out (Nat.le_succ _), ?_, .inr (.inr ⟨HY.out, HYP.out, HGS.out, rfl⟩)⟩
    exact Lies.keep (fun q hq _ => World.cell?_of_block (res_set (w := w) _ (fun e => by have := HSb.out _ hq; omega))) (fun _ h _ => h) _ _ HL4.out
theorem out_set {O n : Nat} {v : Option Addr} {c i c' : Nat} {A' : Option Addr} : ∀ W : World, W.rowIs O 25 5 (hdAt ⟨4, 0, ByteArray.empty, A', i, c', none, 0, 0⟩) → (W.setCell ⟨O, 3, none⟩ (.slice v n c)).rowIs O 25 5 (hdAt ⟨4, 0, ByteArray.empty, v, n, c, none, 0, 0⟩) := fun W H => by
  refine (H.set 3 _).congr (fun j hj => ?_)
  match j, hj with
  | 0, _ => rfl
  | 1, _ => rfl
  | 2, _ => rfl
  | 3, _ => rfl
  | 4, _ => rfl
set_option maxHeartbeats 8000000 in
set_option maxRecDepth 100000 in
theorem add_ref (a : Va) (S S' : Nat → Prop) (h : Hd) (w : World) (A : Option Addr) (m c : Nat) (p : List St) (B : Option Addr) (bn bc : Nat) (ins : List Va) (H : Lies w S a h) (hsh : a.Sh) (hcn : a.cnt ≤ 200) (hA : PathAt w A p) (hm : m = p.length) (hc : m ≤ c) (hp : m ≤ 1000) (hkk : ∀ s ∈ p, s.k.size ≤ 4294967296) (HI : Lies w S' (lsVa ins) (lsHd B bn bc)) (his : (lsVa ins).Sh) (hic : (lsVa ins).cnt ≤ 200) :
    Calls Try.prog 57 #[h.val, .slice A m c, .slice B bn bc] w fun e w' => AddQ a p ins w e w' := by
  have HS := Lib.hid (show Lies w (fun b => b < w.heap.size) a h from Lies.keep (fun _ _ _ => rfl) (fun b _ hb => hb) _ _ H)
  have HSI := Lib.hid (show Lies w (fun b => b < w.heap.size) (lsVa ins) (lsHd B bn bc) from Lies.keep (fun _ _ _ => rfl) (fun b _ hb => hb) _ _ HI)
  have HIN := Lib.hid (insAt_of HI his (by omega))
  have HSH := Lib.hid hsh
  have HCN := Lib.hid hcn
  have HIS := Lib.hid his
  have HIC := Lib.hid hic
  have HA := Lib.hid hA
  have HM := Lib.hid hm
  have HKK := Lib.hid hkk
  have hbn : bn = ins.length := by simp only [lsVa, lsHd, Lies] at HI; exact HI.1.2.2.2.1
  have hil : ins.length ≤ 200 := by have := len_le_cntL ins; simp only [lsVa, Va.cnt] at hic; omega
  have HBN := Lib.hid hbn
  obtain ⟨i0, hi0, hz0, hz1, hz2⟩ := info_parts info25
  unfold Hd.val at *
  have hb2 := two_allocs w (Obj.cells #[.int .i64 h.k, .int .i64 h.n, .string h.s, .slice h.A h.la h.lc, .slice h.F h.lf h.fc] 25) (Obj.cells #[.int .i64 0, .int .i64 0, .string { data := #[] }, .slice none 0 0, .slice none 0 0] 25)
  have hbl : bn ≤ 200 := by omega
  have HBX0 := Lib.hid ((Bx.start w h 25).alloc (Obj.cells #[.int .i64 0, .int .i64 0, .string { data := #[] }, .slice none 0 0, .slice none 0 0] 25))
  have HRES0 : Hid (((w.alloc (Obj.cells #[.int .i64 h.k, .int .i64 h.n, .string h.s, .slice h.A h.la h.lc, .slice h.F h.lf h.fc] 25)).alloc (Obj.cells #[.int .i64 0, .int .i64 0, .string { data := #[] }, .slice none 0 0, .slice none 0 0] 25)).rowIs (w.heap.size + 1) 25 5 zeroRes) := Lib.hid (by
    refine hdAt_row (h := zeroHd) ?_
    have h9 := heap_alloc_new (w.alloc (Obj.cells #[.int .i64 h.k, .int .i64 h.n, .string h.s, .slice h.A h.la h.lc, .slice h.F h.lf h.fc] 25)) (Obj.cells #[.int .i64 0, .int .i64 0, .string { data := #[] }, .slice none 0 0, .slice none 0 0] 25)
    rwa [World.size_alloc] at h9)
  have hsz : ((w.alloc (Obj.cells #[.int .i64 h.k, .int .i64 h.n, .string h.s, .slice h.A h.la h.lc, .slice h.F h.lf h.fc] 25)).alloc (Obj.cells #[.int .i64 0, .int .i64 0, .string { data := #[] }, .slice none 0 0, .slice none 0 0] 25)).heap.size = w.heap.size + 2 := by simp
  clear H hsh hcn hA hm HI his hic hbn hil hkk
  go_enter Try.func57, Try.ntmps57
  go_wp2_with fail
  generalize ((w.alloc (Obj.cells #[.int .i64 h.k, .int .i64 h.n, .string h.s, .slice h.A h.la h.lc, .slice h.F h.lf h.fc] 25)).alloc (Obj.cells #[.int .i64 0, .int .i64 0, .string { data := #[] }, .slice none 0 0, .slice none 0 0] 25)) = wd at hb2 HBX0 HRES0 hsz ⊢
  have HB2 := Lib.hid hb2
  have HSZ := Lib.hid hsz
  have hszl : w.heap.size + 2 ≤ wd.heap.size := by omega
  clear hb2 hsz
  go_loopw [8] (fun iv wr => ∃ i : Nat, iv = .int .i64 i ∧ i ≤ bn ∧ (∀ x ∈ ins.take i, x.R 12) ∧ Below wd.heap.size wd wr) (fun iv _ => bn - (intOf iv).toNat)
  case atStart => exact ⟨0, rfl, Nat.zero_le _, by simp, Below.refl _ _⟩
  case round =>
    obtain ⟨i, rfl, hi, hall, hbr⟩ := hrel
    have HALL := Lib.hid hall
    have HBR := Lib.hid hbr
    have HBW := Lib.hid (HB2.out.trans (hbr.mono HB2.out.size))
    have hszr := hbr.size
    have HBXr := Lib.hid (HBX0.out.go hbr HBX0.out.1)
    have HRESr := Lib.hid (rowIs_below HRES0.out hbr (by omega))
    clear hall hbr
    by_cases hlt : i < bn
    · obtain ⟨x, hx⟩ : ∃ x, ins[i]? = some x := ⟨ins[i]'(by have := HBN.out; omega), List.getElem?_eq_getElem (by have := HBN.out; omega)⟩
      obtain ⟨ad, u, e, hab, hLu, hat, hxs, hxc⟩ := (HIN.out.below HBW.out (Nat.le_refl _)) i x hx
      subst e
      obtain ⟨k0, k1, k2, k3, k4⟩ := hat
      have KX := Lib.hid (rightref x _ u wr hLu hxs)
      unfold Hd.val at KX
      have HX := Lib.hid hx
      clear hLu hxs hxc hx
      go_wp2_with fail
      refine KX.out.mono ?_
      rintro e w3 ⟨r, rfl, hr, hb3⟩
      have HR := Lib.hid hr
      have HB3 := Lib.hid hb3
      have HRES3 := Lib.hid (rowIs_below HRESr.out hb3 (by omega))
      clear hb3 hr KX
      cases r
      · have HNO : Hid (¬ AllR a p ins) := Lib.hid (fun h => absurd (HR.out.2 (h.2.2 x (List.mem_of_getElem? HX.out))) (by decide))
        have z0 := HRES3.out.cell (show 0 < 5 by decide)
        have z1 := HRES3.out.cell (show 1 < 5 by decide)
        have z2 := HRES3.out.cell (show 2 < 5 by decide)
        have z3 := HRES3.out.cell (show 3 < 5 by decide)
        have z4 := HRES3.out.cell (show 4 < 5 by decide)
        have g0 := HRES3.out.frozen 0
        have g1 := HRES3.out.frozen 1
        have g2 := HRES3.out.frozen 2
        have g3 := HRES3.out.frozen 3
        have g4 := HRES3.out.frozen 4
        simp only [hdAt, Hd.cells, List.getD_cons_succ, List.getD_cons_zero] at z0 z1 z2 z3 z4
        go_wp2_with fail
        refine bodyPost_ret (v := .tuple #[.agg #[.int .i64 0, .int .i64 0, .string ⟨#[]⟩, .slice none 0 0, .slice none 0 0], .int .i64 1]) (by simp [results, Try.results57, go_sem, z0, z1, z2, z3, z4]; try rfl) rfl ?_
        exact ⟨zeroVa, zeroHd, 1, rfl, res_below (HBW.out.trans (HB3.out.mono HBW.out.size)) (Nat.le_succ _), lies_zero _ _, .inl ⟨HNO.out, rfl, rfl⟩⟩
      · have HN := Lib.hid (InsR_next HALL.out HX.out (HR.out.1 rfl))
        go_wp2_with fail
        exact ⟨⟨i + 1, by go_num, by omega, HN.out, HBR.out.trans (HB3.out.mono HBR.out.size)⟩, by simp [intOf]; omega⟩
    · have HYA : Hid (∀ x ∈ ins, x.R 12) := Lib.hid (by have h1 := HALL.out; have h2 := HBN.out; rwa [List.take_of_length_le (by omega)] at h1)
      have b0 := HBXr.out.2 0 _ rfl
      have b1 := HBXr.out.2 1 _ rfl
      have b2 := HBXr.out.2 2 _ rfl
      have b3 := HBXr.out.2 3 _ rfl
      have b4 := HBXr.out.2 4 _ rfl
      have KF := Lib.hid (may_refS (fun b => b < w.heap.size) a h wr A m c p (fun b hb => by omega) (HS.out.below HBW.out (Nat.le_refl _)) HSH.out (Nat.le_trans HCN.out (by decide)) (HA.out.below HBW.out (Nat.le_refl _)) HM.out hp HKK.out)
      unfold Hd.val at KF
      go_wp2_with fail
      refine KF.out.mono ?_
      rintro e w1 ⟨b, h', er, rfl, hb1, hl1, ho1⟩
      have HO1 := Lib.hid ho1
      have HL1 := Lib.hid hl1
      have HB := Lib.hid (HBW.out.trans (hb1.mono HBW.out.size))
      have HRES := Lib.hid (rowIs_below HRESr.out hb1 (by omega))
      have HBX := Lib.hid (HBXr.out.go hb1 HBXr.out.1)
      have hs1 := hb1.size
      clear hb1 hl1 ho1 KF b0 b1 b2 b3 b4
      go_upto_region 7 with fail
      have hb4 := one_alloc w1 (Obj.cells #[.int .i64 h'.k, .int .i64 h'.n, .string h'.s, .slice h'.A h'.la h'.lc, .slice h'.F h'.lf h'.fc] 25)
      have hcx : (w1.alloc (Obj.cells #[.int .i64 h'.k, .int .i64 h'.n, .string h'.s, .slice h'.A h'.la h'.lc, .slice h'.F h'.lf h'.fc] 25)).rowIs w1.heap.size 25 5 (hdAt h') := hdAt_row (heap_alloc_new _ _)
      generalize w1.alloc (Obj.cells #[.int .i64 h'.k, .int .i64 h'.n, .string h'.s, .slice h'.A h'.la h'.lc, .slice h'.F h'.lf h'.fc] 25) = w4 at hb4 hcx ⊢
      have HB4 := Lib.hid (HB.out.trans (hb4.mono HB.out.size))
      have HRES4 := Lib.hid (rowIs_below HRES.out hb4 (by omega))
      have HBX4 := Lib.hid (HBX.out.go hb4 HBX.out.1)
      have HL4 := Lib.hid (HL1.out.below hb4 (Nat.le_refl _))
      have HCX := Lib.hid hcx
      have hxl := hcx.lt
      have hs4 := hb4.size
      have x0 := hcx.cell (show 0 < 5 by decide)
      have x1 := hcx.cell (show 1 < 5 by decide)
      have x2 := hcx.cell (show 2 < 5 by decide)
      have x3 := hcx.cell (show 3 < 5 by decide)
      have x4 := hcx.cell (show 4 < 5 by decide)
      simp only [hdAt, Hd.cells, List.getD_cons_succ, List.getD_cons_zero] at x0 x1 x2 x3 x4
      clear hb4 hcx HB HRES HL1 HBX
      by_cases he : er = 0
      case neg =>
        have he' := bq_no he
        have HNO : Hid (AddC a p ins er zeroVa) := Lib.hid (by
          rcases HO1.out with ⟨h1, h2, _⟩ | ⟨h1, h2, h3, h4, _⟩ | ⟨_, _, _, h1⟩
          · exact .inl ⟨fun h => h1 ⟨h.1, h.2.1⟩, h2, rfl⟩
          · exact .inr (.inl ⟨⟨h1, h2, HYA.out⟩, h3, h4, rfl⟩)
          · exact absurd h1 he)
        clear he
        have z0 := HRES4.out.cell (show 0 < 5 by decide)
        have z1 := HRES4.out.cell (show 1 < 5 by decide)
        have z2 := HRES4.out.cell (show 2 < 5 by decide)
        have z3 := HRES4.out.cell (show 3 < 5 by decide)
        have z4 := HRES4.out.cell (show 4 < 5 by decide)
        have g0 := HRES4.out.frozen 0
        have g1 := HRES4.out.frozen 1
        have g2 := HRES4.out.frozen 2
        have g3 := HRES4.out.frozen 3
        have g4 := HRES4.out.frozen 4
        simp only [hdAt, Hd.cells, List.getD_cons_succ, List.getD_cons_zero] at z0 z1 z2 z3 z4
        go_wp2_with fail
        refine bodyPost_ret (v := .tuple #[.agg #[.int .i64 0, .int .i64 0, .string ⟨#[]⟩, .slice none 0 0, .slice none 0 0], .int .i64 er]) (by simp [results, Try.results57, go_sem, z0, z1, z2, z3, z4]; try rfl) rfl ?_
        exact ⟨zeroVa, zeroHd, er, rfl, res_below HB4.out (Nat.le_succ _), lies_zero _ _, HNO.out⟩
      subst he
      have HYES : Hid (AllR a p ins ∧ goV a p = some b) := Lib.hid (by
        rcases HO1.out with ⟨_, h1, _⟩ | ⟨_, _, _, h1, _⟩ | ⟨h1, h2, h3, _⟩
        · exact absurd h1 (by decide)
        · exact absurd h1 (by decide)
        · exact ⟨⟨h1, h2, HYA.out⟩, h3⟩)
      clear HO1
      have HBRR := Lib.hid (goV_R HYES.out.1.1 HYES.out.2)
      have HBS := Lib.hid (goV_sh HSH.out HYES.out.2)
      have HBC2 := Lib.hid (goV_cnt HCN.out HYES.out.2)
      obtain ⟨bk, bnn, bs, l, ks, f⟩ := b
      have hL := HL4.out
      simp only [Lies] at hL
      obtain ⟨⟨e1, e2, e3, e4, e5, e6⟩, -, -⟩ := hL
      have HE := Lib.hid (show h'.k = bk ∧ h'.n = bnn ∧ h'.s = bs ∧ h'.la = l.length ∧ h'.lf = f.length ∧ ks.length = f.length from ⟨e1, e2, e3, e4, e5, e6⟩)
      clear e1 e2 e3 e4 e5 e6
      by_cases hk : h'.k = 4
      case neg =>
        have hk' := bq_no hk
        have HK := Lib.hid hk
        clear hk
        have z0 := HRES4.out.cell (show 0 < 5 by decide)
        have z1 := HRES4.out.cell (show 1 < 5 by decide)
        have z2 := HRES4.out.cell (show 2 < 5 by decide)
        have z3 := HRES4.out.cell (show 3 < 5 by decide)
        have z4 := HRES4.out.cell (show 4 < 5 by decide)
        have g0 := HRES4.out.frozen 0
        have g1 := HRES4.out.frozen 1
        have g2 := HRES4.out.frozen 2
        have g3 := HRES4.out.frozen 3
        have g4 := HRES4.out.frozen 4
        simp only [hdAt, Hd.cells, List.getD_cons_succ, List.getD_cons_zero] at z0 z1 z2 z3 z4
        go_wp2_with fail
        refine bodyPost_ret (v := .tuple #[.agg #[.int .i64 0, .int .i64 0, .string ⟨#[]⟩, .slice none 0 0, .slice none 0 0], .int .i64 9]) (by simp [results, Try.results57, go_sem, z0, z1, z2, z3, z4]; try rfl) rfl ?_
        exact ⟨zeroVa, zeroHd, 9, rfl, res_below HB4.out (Nat.le_succ _), lies_zero _ _, .inr (.inr (.inl ⟨_, HYES.out.1, HYES.out.2, fun e => HK.out (HE.out.1.trans e), rfl, rfl⟩))⟩
      have hk' : ((h'.k : Int) == 4) = true := by simpa using hk
      obtain rfl : bk = 4 := HE.out.1.symm.trans hk
      obtain ⟨rfl, rfl, rfl, rfl⟩ := list_R HBRR.out HE.out.2.2.2.2.2
      have HK4 := Lib.hid hk
      clear hk
      obtain ⟨us, vs0, hul, -, hrL, hLL, -, -⟩ := HL4.out.rows
      obtain ⟨vs, vs1, hvl, -, hrI, hLI, -, -⟩ := (HSI.out.below HB4.out (Nat.le_refl _)).rows
      have hla : h'.la = us.length := by rw [hul]; exact HE.out.2.2.2.1
      have hbn2 : bn = vs.length := by rw [hvl]; exact HBN.out
      have hul2 : h'.la ≤ 200 := by have h1 := len_le_cntL l; have h2 := HBC2.out; simp only [Va.cnt] at h2; omega
      have HSL : Hid (SrcAt w4 h'.A h'.la (us.flatMap Hd.cells)) := Lib.hid (by rw [hla]; exact src_of_row hrL)
      have HSI2 : Hid (SrcAt w4 B bn (vs.flatMap Hd.cells)) := Lib.hid (by rw [hbn2]; exact src_of_row hrI)
      have HFL : Hid ((us.flatMap Hd.cells).length = h'.la * 5) := Lib.hid (by rw [hla]; exact flat_lenL us)
      have HFI : Hid ((vs.flatMap Hd.cells).length = bn * 5) := Lib.hid (by rw [hbn2]; exact flat_lenL vs)
      have HLL := Lib.hid hLL
      have HLI := Lib.hid hLI
      have HLN := Lib.hid (show h'.la + bn = (l ++ ins).length by rw [List.length_append]; have h1 := HE.out.2.2.2.1; have h2 := HBN.out; omega)
      clear hrL hLL hrI hLI hla hbn2 hul hvl
      clear HBXr HRESr HBR HIN HSI HBW
      go_upto_region 12 with fail
      have hbo := one_alloc w4 (Obj.cells #[.int .i64 4, .int .i64 0, .string { data := #[] }, .slice none 0 0, .slice none 0 0] 25)
      have hro : (w4.alloc (Obj.cells #[.int .i64 4, .int .i64 0, .string { data := #[] }, .slice none 0 0, .slice none 0 0] 25)).rowIs w4.heap.size 25 5 (hdAt ⟨4, 0, ByteArray.empty, none, 0, 0, none, 0, 0⟩) := hdAt_row (h := ⟨4, 0, ByteArray.empty, none, 0, 0, none, 0, 0⟩) (heap_alloc_new _ _)
      have hso : (w4.alloc (Obj.cells #[.int .i64 4, .int .i64 0, .string { data := #[] }, .slice none 0 0, .slice none 0 0] 25)).heap.size = w4.heap.size + 1 := by simp
      generalize w4.alloc (Obj.cells #[.int .i64 4, .int .i64 0, .string { data := #[] }, .slice none 0 0, .slice none 0 0] 25) = wo at hbo hro hso ⊢
      have HBO := Lib.hid hbo
      have HRO := Lib.hid hro
      have HSO := Lib.hid hso
      have hol : w4.heap.size < wo.heap.size := by omega
      have X3 := (hbo.cell (p := ⟨w1.heap.size, 3, none⟩) hxl).trans x3
      have cO := hro.cell (show 3 < 5 by decide)
      have fO := hro.frozen 3
      have HO0 := Lib.hid (World.ownsRow_nil wo wo.heap.size 25 5)
      have HSLo := Lib.hid (HSL.out.below hbo (Nat.le_refl _))
      simp only [hdAt, Hd.cells, List.getD_cons_succ, List.getD_cons_zero] at cO
      clear hbo hro hso x0 x1 x2 x3 x4
      go_upto_region 13 with (at_builtin; refine wpList_append_may wo rfl _ _ 22 rfl wo.heap.size 25 i0 _ 5 80 Try.underlying22 hi0 hz0 hz1 hz2 rfl (by decide) (.slice none 0 0) 0 [] rfl HO0.out h'.A h'.la h'.lc (us.flatMap Hd.cells) rfl HFL.out HSLo.out (flat_oneL us) (by unfold maxLen; omega) (by omega) (Nat.le_refl _) ?_; intro v1 w5 hown5 hgrow5 hat5; rw [Nat.zero_add, List.nil_append] at hown5; obtain ⟨A1, c1, rfl⟩ := own_slice hown5; have cO5 := cur_gr cO (Below.refl _ _) hgrow5 (by simp [Value.ownBlock]); have fO5 := cur_grf cO fO (Below.refl _ _) hgrow5 (by simp [Value.ownBlock]))
      have hb5 : Below wo.heap.size wo w5 := (Below.refl _ _).grown hgrow5 (Nat.le_refl _) (fun g hg => by simp [Value.ownBlock] at hg)
      have hr5 := rowIs_below HRO.out hb5 hol
      have hs5 := hb5.size
      have hr6 : (w5.setCell ⟨w4.heap.size, 3, none⟩ (.slice A1 h'.la c1)).rowIs w4.heap.size 25 5 (hdAt ⟨4, 0, ByteArray.empty, A1, h'.la, c1, none, 0, 0⟩) := out_set _ hr5
      have hk6 : ∀ b, b ≠ w4.heap.size → (w5.setCell ⟨w4.heap.size, 3, none⟩ (.slice A1 h'.la c1)).heap[b]? = w5.heap[b]? := fun b hb => Below.heap_setCell _ _ _ _ hb
      have hs6 : (w5.setCell ⟨w4.heap.size, 3, none⟩ (.slice A1 h'.la c1)).heap.size = w5.heap.size := by simp
      have hb46 : Below w4.heap.size w4 (w5.setCell ⟨w4.heap.size, 3, none⟩ (.slice A1 h'.la c1)) := (HBO.out.trans (hb5.mono (by omega))).setCell (Nat.le_refl _) _
      generalize (w5.setCell ⟨w4.heap.size, 3, none⟩ (.slice A1 h'.la c1)) = w6 at hr6 hk6 hs6 hb46 ⊢
      have HB46 := Lib.hid hb46
      clear hb46
      have HB5 := Lib.hid hb5
      have HK6 := Lib.hid hk6
      have HR6 := Lib.hid hr6
      have HS6 := Lib.hid hs6
      have hs6l : wo.heap.size ≤ w6.heap.size := by omega
      have HO6 := Lib.hid (own_block hown5 (fun g hg => hk6 g (by have := (own_lo hown5 hg).1; omega)) : w6.ownsRow wo.heap.size 25 5 (.slice A1 h'.la c1) h'.la (us.flatMap Hd.cells))
      have HSI6 := Lib.hid (show SrcAt w6 B bn (vs.flatMap Hd.cells) from by
        have h1 := (HSI2.out.below HBO.out (Nat.le_refl _)).below hb5 (Nat.le_refl _)
        rcases HSI2.out with ⟨ad, e, h2⟩ | h2
        · refine .inl ⟨ad, e, fun j u hu => ?_⟩
          have h3 := h2 j u hu
          have h4 := World.block_lt_of_cell? w4 _ h3
          rw [World.cell?_of_block (hk6 _ (by omega)), hb5.cell (by omega), HBO.out.cell h4]
          exact h3
        · exact .inr h2)
      have cO6 := hr6.cell (show 3 < 5 by decide)
      have fO6 := hr6.frozen 3
      simp only [hdAt, Hd.cells, List.getD_cons_succ, List.getD_cons_zero] at cO6
      have HNE := Lib.hid (show some w4.heap.size ≠ (Value.slice A1 h'.la c1).ownBlock from fun e => by have := (own_lo HO6.out e.symm).1; omega)
      clear hb5 hr5 hs5 hr6 hk6 hs6 hown5 hgrow5 hat5 cO fO X3 cO5 fO5
      go_upto_region 14 with (at_builtin; refine wpList_append_may w6 rfl _ _ 22 rfl wo.heap.size 25 i0 _ 5 80 Try.underlying22 hi0 hz0 hz1 hz2 rfl (by decide) (.slice A1 h'.la c1) h'.la (us.flatMap Hd.cells) rfl HO6.out B bn bc (vs.flatMap Hd.cells) rfl HFI.out HSI6.out (flat_oneL vs) (by unfold maxLen; omega) (by omega) hs6l ?_; intro v2 w7 hown7 hgrow7 hat7; obtain ⟨A2, c2, rfl⟩ := own_slice hown7; have cO7 := cur_gr cO6 (Below.refl _ _) hgrow7 HNE.out; have fO7 := cur_grf cO6 fO6 (Below.refl _ _) hgrow7 HNE.out)
      have hs7 := hgrow7.size
      have hblk7 : ∀ b, b < wo.heap.size → w7.heap[b]? = w6.heap[b]? := fun b hb => hgrow7.block b (by omega) (fun e => by have := (own_lo HO6.out e.symm).1; omega)
      have hr7 : w7.rowIs w4.heap.size 25 5 (hdAt ⟨4, 0, ByteArray.empty, A1, h'.la, c1, none, 0, 0⟩) := rowIs_below' (B := 0) HR6.out (hblk7 _ hol)
      have hr8 : (w7.setCell ⟨w4.heap.size, 3, none⟩ (.slice A2 (h'.la + bn) c2)).rowIs w4.heap.size 25 5 (hdAt ⟨4, 0, ByteArray.empty, A2, h'.la + bn, c2, none, 0, 0⟩) := out_set _ hr7
      have hk8 : ∀ b, b ≠ w4.heap.size → (w7.setCell ⟨w4.heap.size, 3, none⟩ (.slice A2 (h'.la + bn) c2)).heap[b]? = w7.heap[b]? := fun b hb => Below.heap_setCell _ _ _ _ hb
      have hs8 : (w7.setCell ⟨w4.heap.size, 3, none⟩ (.slice A2 (h'.la + bn) c2)).heap.size = w7.heap.size := by simp
      have hb67 : Below wo.heap.size w6 w7 := (Below.refl _ _).grown hgrow7 hs6l (fun g hg => (own_lo HO6.out hg).1)
      have hb8 : Below w.heap.size w (w7.setCell ⟨w4.heap.size, 3, none⟩ (.slice A2 (h'.la + bn) c2)) := by
        exact (HB4.out.trans ((HB46.out.trans (hb67.mono (by omega))).mono HB4.out.size)).setCell (by show w.heap.size ≤ w4.heap.size; omega) _
      generalize (w7.setCell ⟨w4.heap.size, 3, none⟩ (.slice A2 (h'.la + bn) c2)) = w8 at hr8 hk8 hs8 hb8 ⊢
      have HB8 := Lib.hid hb8
      have hs8l : wo.heap.size ≤ w8.heap.size := by omega
      have hk48 : ∀ b, b < w4.heap.size → w8.heap[b]? = w4.heap[b]? := fun b hb => by
        rw [hk8 b (by omega), hblk7 b (by omega)]
        exact HB46.out.block b hb
      have HLX : Hid (Lies w8 (fun b => (b < w.heap.size ∨ wo.heap.size ≤ b) ∧ b < w8.heap.size) (.mk 4 0 ByteArray.empty (l ++ ins) [] []) ⟨4, 0, ByteArray.empty, A2, h'.la + bn, c2, none, 0, 0⟩) := Lib.hid (lies_joinS (w0 := w4) (w6 := w7) (S := fun b => b < w.heap.size) (xb := w4.heap.size) (h' := ⟨4, 0, ByteArray.empty, none, 0, 0, none, 0, 0⟩) rfl rfl rfl rfl HLN.out (by have := HLN.out; unfold maxLen; omega) HLL.out HLI.out (fun b hb => by omega) (fun b hb => hk48 b (by omega)) (by omega) hown7 hol (fun b h1 _ => hk8 b h1) (fun b hb => ⟨.inl hb, by omega⟩) (fun b h1 h2 => ⟨.inr h1, by omega⟩))
      have HJS : Hid ((Va.mk 4 0 ByteArray.empty (l ++ ins) [] []).Sh ∧ (Va.mk 4 0 ByteArray.empty (l ++ ins) [] []).cnt ≤ 400) := Lib.hid (by
        have h1 := HBS.out
        have h2 := HIS.out
        have h3 := HBC2.out
        have h4 := HIC.out
        simp only [lsVa, Va.Sh, Va.cnt] at h1 h2 h3 h4 ⊢
        rw [cntL_app, ShL_app]
        exact ⟨⟨h1.1, ⟨h1.2.1, h2.2.1⟩, h1.2.2⟩, by omega⟩)
      have KC := Lib.hid (changed_ref (fun b => (b < w.heap.size ∨ wo.heap.size ≤ b) ∧ b < w8.heap.size) (.mk 4 0 ByteArray.empty (l ++ ins) [] []) ⟨4, 0, ByteArray.empty, A2, h'.la + bn, c2, none, 0, 0⟩ p a h w8 A m c 12 (fun b hb => hb.2) (Lies.keep (fun _ _ _ => rfl) (fun b hb h9 => ⟨.inl hb, h9⟩) _ _ (HS.out.below HB8.out (Nat.le_refl _))) HLX.out (HA.out.below HB8.out (Nat.le_refl _)) HYES.out.1.2.1.2 HM.out hc hp HSH.out (Nat.le_trans HCN.out (by decide)) HJS.out.1 HYES.out.1.1 (by rw [HYES.out.2]; rfl))
      unfold Hd.val at KC
      have hbv : Bx w8 w.heap.size h := by
        have h1 := HBX4.out
        exact ⟨by have := h1.1; omega, fun j c hj => (World.cell?_of_block (a := ⟨w.heap.size, j, none⟩) (hk48 _ (by show w.heap.size < w4.heap.size; omega))).trans (h1.2 j c hj)⟩
      have HR8 := Lib.hid (show w8.rowIs (w.heap.size + 1) 25 5 zeroRes from HRES4.out.of_block (hk48 _ (by omega)))
      have q0 := hbv.2 0 _ rfl
      have q1 := hbv.2 1 _ rfl
      have q2 := hbv.2 2 _ rfl
      have q3 := hbv.2 3 _ rfl
      have q4 := hbv.2 4 _ rfl
      have x0 := hr8.cell (show 0 < 5 by decide)
      have x1 := hr8.cell (show 1 < 5 by decide)
      have x2 := hr8.cell (show 2 < 5 by decide)
      have x3 := hr8.cell (show 3 < 5 by decide)
      have x4 := hr8.cell (show 4 < 5 by decide)
      simp only [hdAt, Hd.cells, List.getD_cons_succ, List.getD_cons_zero] at x0 x1 x2 x3 x4
      clear hbv hr8 hk8 hb8 hk48 hr7 hblk7 hb67 hown7 hgrow7 hat7 cO6 fO6 cO7 fO7 hs7 hs8
      go_wp2_with fail
      refine KC.out.mono ?_
      rintro e w9 ⟨b8, h8, er, rfl, hb9, hl9, ho9⟩
      have HB9 := Lib.hid (HB8.out.trans (hb9.mono HB8.out.size))
      have HR9 := Lib.hid (rowIs_below HR8.out hb9 (by omega))
      have HL9 := Lib.hid hl9
      have HO9 := Lib.hid ho9
      clear hb9 hl9 ho9 KC x0 x1 x2 x3 x4 q0 q1 q2 q3 q4
      have z0 := HR9.out.cell (show 0 < 5 by decide)
      have z1 := HR9.out.cell (show 1 < 5 by decide)
      have z2 := HR9.out.cell (show 2 < 5 by decide)
      have z3 := HR9.out.cell (show 3 < 5 by decide)
      have z4 := HR9.out.cell (show 4 < 5 by decide)
      have g0 := HR9.out.frozen 0
      have g1 := HR9.out.frozen 1
      have g2 := HR9.out.frozen 2
      have g3 := HR9.out.frozen 3
      have g4 := HR9.out.frozen 4
      simp only [hdAt, Hd.cells, List.getD_cons_succ, List.getD_cons_zero] at z0 z1 z2 z3 z4
      go_wp2_with fail
      refine bodyPost_ret (v := .tuple #[.agg #[.int .i64 h8.k, .int .i64 h8.n, .string h8.s, .slice h8.A h8.la h8.lc, .slice h8.F h8.lf h8.fc], .int .i64 er]) (by simp [results, Try.results57, go_sem, z0, z1, z2, z3, z4]; try rfl) rfl ?_
      refine ⟨b8, h8, er, rfl, res_below HB9.out (Nat.le_succ _), ?_, ?_⟩
      · refine Lies.keep (fun q hq _ => World.cell?_of_block (res_set (w := w) _ (fun e => ?_))) (fun _ _ _ => trivial) _ _ HL9.out
        rw [e] at hq
        have := HSO.out
        rcases hq with ⟨hq | hq, _⟩ | hq <;> omega
      · rcases HO9.out with ⟨h1, h2, h3⟩ | ⟨h1, h2, h3⟩
        · exact .inr (.inr (.inr (.inl ⟨_, HYES.out.1, HYES.out.2, rfl, h1, h2, h3⟩)))
        · exact .inr (.inr (.inr (.inr ⟨_, HYES.out.1, HYES.out.2, rfl, h1, h2, h3⟩)))
end Go.Proofs.Ytmdlcalnncncjaa
