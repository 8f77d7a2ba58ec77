/- path.Add. -/
import Derived.Test.YtmdlcalnncncjaaPPutQ
import Derived.Test.YtmdlcalnncncjaaPCat
set_option linter.unusedVariables false
set_option linter.unusedSimpArgs false
namespace Go.Proofs.Ytmdlcalnncncjaa
open Go.RowKit
/-- Values in a row, as a value that holds them. -/
abbrev lsVa (ins : List Va) : Va := .mk 0 0 ByteArray.empty ins [] []
abbrev lsHd (B : Option Addr) (n c : Nat) : Hd := ⟨0, 0, ByteArray.empty, B, n, c, none, 0, 0⟩
def Va.kd : Va → Int
  | .mk k _ _ _ _ _ => k
/-- A list with values behind its own. -/
def addV : Va → List Va → Va
  | .mk _ _ _ l _ _, ins => .mk 4 0 ByteArray.empty (l ++ ins) [] []
/-- What Add comes to. -/
def AddC (a : Va) (p : List St) (ins : List Va) (er : Int) (b : Va) : Prop :=
  (¬ AllR a p ins ∧ er = 1 ∧ b = zeroVa) ∨ (AllR a p ins ∧ goV a p = none ∧ er = 8 ∧ b = zeroVa) ∨ (∃ y, AllR a p ins ∧ goV a p = some y ∧ ¬ y.kd = 4 ∧ er = 9 ∧ b = zeroVa) ∨
  (∃ y, AllR a p ins ∧ goV a p = some y ∧ y.kd = 4 ∧ (putV a p (addV y ins)).R 12 ∧ er = 0 ∧ b = putV a p (addV y ins)) ∨ (∃ y, AllR a p ins ∧ goV a p = some y ∧ y.kd = 4 ∧ ¬ (putV a p (addV y ins)).R 12 ∧ er = 5 ∧ b = zeroVa)
theorem AddC.same {a : Va} {p : List St} {ins : List Va} {er er2 : Int} {b b2 : Va} (h1 : AddC a p ins er b) (h2 : AddC a p ins er2 b2) : er = er2 ∧ b = b2 := by
  unfold AddC at h1 h2
  rcases h1 with ⟨a1, a2, a3⟩ | ⟨a1, a0, a2, a3⟩ | ⟨y, a1, a0, ak, a2, a3⟩ | ⟨y, a1, a0, ak, ar, a2, a3⟩ | ⟨y, a1, a0, ak, ar, a2, a3⟩ <;>
    rcases h2 with ⟨b1, b2, b3⟩ | ⟨b1, b0, b2, b3⟩ | ⟨z, b1, b0, bk, b2, b3⟩ | ⟨z, b1, b0, bk, br, b2, b3⟩ | ⟨z, b1, b0, bk, br, b2, b3⟩
  all_goals first
    | exact absurd a1 b1
    | exact absurd b1 a1
    | (rw [a0] at b0; cases b0; done)
    | (rw [a0] at b0; injection b0 with b0; subst b0; first | exact absurd ak bk | exact absurd bk ak | exact absurd ar br | exact absurd br ar | exact ⟨by rw [a2, b2], by rw [a3, b3]⟩)
    | exact ⟨by rw [a2, b2], by rw [a3, b3]⟩
def AddQ (a : Va) (p : List St) (ins : List Va) (w : World) (e : Ending) (w' : World) : Prop := ∃ (b : Va) (h' : Hd) (er : Int), e = .returned (.tuple #[.agg #[.int .i64 h'.k, .int .i64 h'.n, .string h'.s, .slice h'.A h'.la h'.lc, .slice h'.F h'.lf h'.fc], .int .i64 er]) ∧ Below w.heap.size w w' ∧ Lies w' (fun _ => True) b h' ∧ AddC a p ins er b
theorem insAt_of {w : World} {S : Nat → Prop} {B : Option Addr} {n c : Nat} {ins : List Va} (H : Lies w S (lsVa ins) (lsHd B n c)) (hs : (lsVa ins).Sh) (hc : (lsVa ins).cnt ≤ 1000) : InsAt w B ins := by
  intro i x hx
  obtain ⟨ad, u, e, -, hb, hl, hat⟩ := H.op.L i x hx
  have hm := List.mem_of_getElem? hx
  refine ⟨ad, u, e, hb, Lies.keep (fun _ _ _ => rfl) (fun _ _ _ => trivial) _ _ hl, hat, ?_, ?_⟩
  · simp only [lsVa, Va.Sh] at hs
    exact ShL_mem hs.2.1 hm
  · simp only [lsVa, Va.cnt] at hc
    have := cntL_mem hm
    omega
theorem src_of_row {w : World} {S : Nat → Prop} {A : Option Addr} {us : List Hd} (h : RowAt w S 5 A (us.map Hd.cells)) : SrcAt w A us.length (us.flatMap Hd.cells) := by
  cases us with
  | nil =>
    cases A with
    | none => exact .inr ⟨rfl, rfl, rfl⟩
    | some ad => exact .inl ⟨ad, rfl, fun j u hu => by simp at hu⟩
  | cons u us =>
    obtain ⟨ad, e, -, hc⟩ := h (by simp)
    refine .inl ⟨ad, e, fun j c hj => ?_⟩
    have := row_news (w := w) (ad := ad) Hd.cells 5 cells_len (u :: us) 0 (fun i v hv j c hc2 => by rw [Nat.zero_add]; exact hc i v.cells (by rw [List.getElem?_map, hv]; rfl) j c hc2) j c hj
    rwa [Nat.zero_add] at this
theorem flat_lenL : ∀ us : List Hd, (us.flatMap Hd.cells).length = us.length * 5
  | [] => rfl
  | u :: us => by rw [List.flatMap_cons, List.length_append, flat_lenL us, cells_len, List.length_cons]; omega
theorem flat_oneL (us : List Hd) : ∀ u ∈ us.flatMap Hd.cells, u.oneCell' = true := by
  intro u hu
  obtain ⟨v, _, hv⟩ := List.mem_flatMap.1 hu
  simp only [Hd.cells, List.mem_cons, List.not_mem_nil, or_false] at hv
  rcases hv with rfl | rfl | rfl | rfl | rfl <;> rfl
/-- A right list. -/
theorem list_R {n : Int} {t : ByteArray} {l : List Va} {ks : List ByteArray} {f : List Va} {d : Nat} (h : (Va.mk 4 n t l ks f).R d) (hk : ks.length = f.length) : n = 0 ∧ t = ByteArray.empty ∧ ks = [] ∧ f = [] := by
  simp only [Va.R] at h
  obtain ⟨-, hT, -⟩ := h
  have hf : f = [] := by
    have := hT.c4
    cases f with
    | nil => rfl
    | cons a b => exact absurd ⟨by decide, by simp⟩ this
  subst hf
  refine ⟨?_, ?_, List.length_eq_zero_iff.1 (by simpa using hk), rfl⟩
  · have := hT.c1
    by_cases e : n = 0
    · exact e
    · exact absurd ⟨by decide, by decide, e⟩ this
  · have := hT.c2
    by_cases e : t.size = 0
    · exact empty_of e
    · exact absurd ⟨by decide, e⟩ this
/-- The joined list in memory. -/
theorem lies_join {w0 w6 w7 : World} {S : Nat → Prop} {l ins : List Va} {us vs : List Hd} {h' : Hd} {A' : Option Addr} {n c' base xb : Nat} (hk : h'.k = 4) (hn : h'.n = 0) (hs : h'.s = ByteArray.empty) (hlf : h'.lf = 0) (hn2 : n = (l ++ ins).length) (hlm : (l ++ ins).length ≤ maxLen)
    (hu : LiesL w0 S l us) (hv : LiesL w0 S ins vs) (hS : ∀ b, S b → b < w0.heap.size) (hS7 : ∀ b, S b → w7.heap[b]? = w0.heap[b]?) (hsz : w0.heap.size ≤ w7.heap.size) (h67 : w6.heap.size ≤ w7.heap.size) (hown : w6.ownsRow base 25 5 (.slice A' n c') n (us.flatMap Hd.cells ++ vs.flatMap Hd.cells)) (hxb : xb < base) (hb7 : ∀ b, b ≠ xb → b < w6.heap.size → w7.heap[b]? = w6.heap[b]?) :
    Lies w7 (fun b => b < w7.heap.size) (.mk 4 0 ByteArray.empty (l ++ ins) [] []) ⟨h'.k, h'.n, h'.s, A', n, c', h'.F, h'.lf, h'.fc⟩ := by
  have own7 : w7.ownsRow base 25 5 (.slice A' n c') n ((us ++ vs).flatMap Hd.cells) := own_block (by rw [List.flatMap_append]; exact hown) fun g hg => hb7 g (by have := (own_lo hown hg).1; omega) (own_lo hown hg).2
  have cap := own_cap own7
  unfold Lies
  refine ⟨⟨hk, hn, hs, hn2, hlf, rfl⟩, ⟨by decide, by decide, by decide, by simp, hlm, by decide, by show (l ++ ins).length ≤ c'; omega, Nat.zero_le _⟩, ⟨us ++ vs, row_of_own Hd.cells (us ++ vs) cells_len own7 (fun g hg => by have := (own_lo own7 hg).2; exact this) (.inr (by decide)), LiesL_mk (by simp [LiesL_len hu, LiesL_len hv]) fun i y u hy hu2 => ?_⟩, ⟨[], fun h => by simp at h, by unfold LiesL; rfl⟩⟩
  have hl := LiesL_len hu
  have hk2 : ∀ y u, Lies w0 S y u → Lies w7 (fun b => b < w7.heap.size) y u := fun y u h => Lies.keep (fun q hq _ => World.cell?_of_block (hS7 _ hq)) (fun b hb _ => by have := hS b hb; omega) y u h
  by_cases e : i < l.length
  · rw [List.getElem?_append_left e] at hy
    rw [List.getElem?_append_left (by omega)] at hu2
    obtain ⟨u', hu', hl'⟩ := LiesL_at hu hy
    rw [hu2] at hu'
    cases hu'
    exact hk2 y u hl'
  · rw [List.getElem?_append_right (by omega)] at hy
    rw [List.getElem?_append_right (by omega), hl] at hu2
    obtain ⟨u', hu', hl'⟩ := LiesL_at hv hy
    rw [hu2] at hu'
    cases hu'
    exact hk2 y u hl'
set_option maxHeartbeats 4000000 in
set_option maxRecDepth 100000 in
theorem add_prog (a : Va) (S S' : Nat → Prop) (h : Hd) (w : World) (A : Option Addr) (m c : Nat) (p : List St) (B : Option Addr) (bn bc : Nat) (ins : List Va) (H : Lies w S a h) (hsh : a.Sh) (hcn : a.cnt ≤ 200) (hA : PathAt w A p) (hm : m = p.length) (hc : m ≤ c) (hp : m ≤ 1000) (HI : Lies w S' (lsVa ins) (lsHd B bn bc)) (his : (lsVa ins).Sh) (hic : (lsVa ins).cnt ≤ 200) :
    Calls Try.prog 56 #[h.val, .slice A m c, .slice B bn bc] w fun e w' => AddQ a p ins w e w' := by
  have HS := Lib.hid (show Lies w (fun b => b < w.heap.size) a h from Lies.keep (fun _ _ _ => rfl) (fun b _ hb => hb) _ _ H)
  have HSI := Lib.hid (show Lies w (fun b => b < w.heap.size) (lsVa ins) (lsHd B bn bc) from Lies.keep (fun _ _ _ => rfl) (fun b _ hb => hb) _ _ HI)
  have HSH := Lib.hid hsh
  have HCN := Lib.hid hcn
  have HIS := Lib.hid his
  have HIC := Lib.hid hic
  have HA := Lib.hid hA
  have HM := Lib.hid hm
  have hbn : bn = ins.length := by simp only [lsVa, lsHd, Lies] at HI; exact HI.1.2.2.2.1
  have hil : ins.length ≤ 200 := by have := len_le_cntL ins; simp only [lsVa, Va.cnt] at hic; omega
  have HBN := Lib.hid hbn
  unfold Hd.val at *
  have hb2 := two_allocs w (Obj.cells #[.int .i64 h.k, .int .i64 h.n, .string h.s, .slice h.A h.la h.lc, .slice h.F h.lf h.fc] 25) (Obj.cells #[.int .i64 0, .int .i64 0, .string { data := #[] }, .slice none 0 0, .slice none 0 0] 25)
  have K1 := Lib.hid (target_any (fun b => b < w.heap.size) a h _ A m c p B bn bc ins (fun b hb => by simp; omega) (HS.out.below hb2 (Nat.le_refl _)) hsh (by omega) (hA.below hb2 (Nat.le_refl _)) hm hc hp ((insAt_of HI his (by omega)).below hb2 (Nat.le_refl _)) hbn (by omega))
  unfold Hd.val at K1
  have hbl : bn ≤ 200 := by omega
  clear H hsh hcn hA hb2 hm HI his hic hbn hil
  go_enter Try.func56, Try.ntmps56
  go_wp2_with fail
  refine K1.out.mono ?_
  rintro e w1 ⟨b, h', er, rfl, hb1, hl1, ho1⟩
  obtain ⟨hb2, hbx, hres, hsz⟩ := two_blocks hb1
  have HL1 := Lib.hid hl1
  have HO1 := Lib.hid ho1
  have HB := Lib.hid hb2
  have HRES := Lib.hid hres
  have HBX := Lib.hid hbx
  clear hb1 hb2 hbx hres hl1 ho1 K1
  go_upto_region 2 with fail
  have hb4 := one_alloc w1 (Obj.cells #[.int .i64 h'.k, .int .i64 h'.n, .string h'.s, .slice h'.A h'.la h'.lc, .slice h'.F h'.lf h'.fc] 25)
  have hcx : (w1.alloc (Obj.cells #[.int .i64 h'.k, .int .i64 h'.n, .string h'.s, .slice h'.A h'.la h'.lc, .slice h'.F h'.lf h'.fc] 25)).rowIs w1.heap.size 25 5 (hdAt h') := hdAt_row (heap_alloc_new _ _)
  generalize w1.alloc (Obj.cells #[.int .i64 h'.k, .int .i64 h'.n, .string h'.s, .slice h'.A h'.la h'.lc, .slice h'.F h'.lf h'.fc] 25) = w4 at hb4 hcx ⊢
  have HB4 := Lib.hid (HB.out.trans (hb4.mono HB.out.size))
  have HRES4 := Lib.hid (rowIs_below HRES.out hb4 (by omega))
  have HBX4 := Lib.hid (HBX.out.go hb4 HBX.out.1)
  have HL4 := Lib.hid (HL1.out.below hb4 (Nat.le_refl _))
  have HCX := Lib.hid hcx
  have hxl := hcx.lt
  have hs4 := hb4.size
  have x0 := hcx.cell (show 0 < 5 by decide)
  have x1 := hcx.cell (show 1 < 5 by decide)
  have x2 := hcx.cell (show 2 < 5 by decide)
  have x3 := hcx.cell (show 3 < 5 by decide)
  have x4 := hcx.cell (show 4 < 5 by decide)
  have f0 := hcx.frozen 0
  have f1 := hcx.frozen 1
  have f2 := hcx.frozen 2
  have f3 := hcx.frozen 3
  have f4 := hcx.frozen 4
  simp only [hdAt, Hd.cells, List.getD_cons_succ, List.getD_cons_zero] at x0 x1 x2 x3 x4
  clear hb4 hcx HB HRES HL1 HBX
  by_cases he : er = 0
  case neg =>
    have he' := bq_no he
    have HNO : Hid (AddC a p ins er zeroVa) := Lib.hid (by
      rcases HO1.out with ⟨h1, h2, _⟩ | ⟨h1, h2, _, h3⟩ | ⟨_, h1, _⟩
      · exact .inl ⟨h1, h2, rfl⟩
      · exact .inr (.inl ⟨h1, h3, h2, rfl⟩)
      · exact absurd h1 he)
    clear he
    have z0 := HRES4.out.cell (show 0 < 5 by decide)
    have z1 := HRES4.out.cell (show 1 < 5 by decide)
    have z2 := HRES4.out.cell (show 2 < 5 by decide)
    have z3 := HRES4.out.cell (show 3 < 5 by decide)
    have z4 := HRES4.out.cell (show 4 < 5 by decide)
    have g0 := HRES4.out.frozen 0
    have g1 := HRES4.out.frozen 1
    have g2 := HRES4.out.frozen 2
    have g3 := HRES4.out.frozen 3
    have g4 := HRES4.out.frozen 4
    simp only [hdAt, Hd.cells, List.getD_cons_succ, List.getD_cons_zero] at z0 z1 z2 z3 z4
    go_wp2_with fail
    refine bodyPost_ret (v := .tuple #[.agg #[.int .i64 0, .int .i64 0, .string ⟨#[]⟩, .slice none 0 0, .slice none 0 0], .int .i64 er]) (by simp [results, Try.results56, go_sem, z0, z1, z2, z3, z4]; try rfl) rfl ?_
    exact ⟨zeroVa, zeroHd, er, rfl, res_below HB4.out (Nat.le_succ _), lies_zero _ _, HNO.out⟩
  subst he
  have HYES : Hid (AllR a p ins ∧ goV a p = some b) := Lib.hid (by
    rcases HO1.out with ⟨_, h1, _⟩ | ⟨_, h1, _⟩ | ⟨h0, _, h1⟩
    · exact absurd h1 (by decide)
    · exact absurd h1 (by decide)
    · exact ⟨h0, h1⟩)
  clear HO1
  have HBR := Lib.hid (goV_R HYES.out.1.1 HYES.out.2)
  have HBS := Lib.hid (goV_sh HSH.out HYES.out.2)
  have HBC := Lib.hid (goV_cnt (Nat.le_trans HCN.out (by decide : 200 ≤ 1000)) HYES.out.2)
  have HBC2 := Lib.hid (goV_cnt HCN.out HYES.out.2)
  obtain ⟨bk, bnn, bs, l, ks, f⟩ := b
  have hL := HL4.out
  simp only [Lies] at hL
  obtain ⟨⟨e1, e2, e3, e4, e5, e6⟩, -, -⟩ := hL
  have HE := Lib.hid (show h'.k = bk ∧ h'.n = bnn ∧ h'.s = bs ∧ h'.la = l.length ∧ h'.lf = f.length ∧ ks.length = f.length from ⟨e1, e2, e3, e4, e5, e6⟩)
  clear e1 e2 e3 e4 e5 e6
  by_cases hk : h'.k = 4
  case neg =>
    have hk' := bq_no hk
    have HK := Lib.hid hk
    clear hk
    have z0 := HRES4.out.cell (show 0 < 5 by decide)
    have z1 := HRES4.out.cell (show 1 < 5 by decide)
    have z2 := HRES4.out.cell (show 2 < 5 by decide)
    have z3 := HRES4.out.cell (show 3 < 5 by decide)
    have z4 := HRES4.out.cell (show 4 < 5 by decide)
    have g0 := HRES4.out.frozen 0
    have g1 := HRES4.out.frozen 1
    have g2 := HRES4.out.frozen 2
    have g3 := HRES4.out.frozen 3
    have g4 := HRES4.out.frozen 4
    simp only [hdAt, Hd.cells, List.getD_cons_succ, List.getD_cons_zero] at z0 z1 z2 z3 z4
    go_wp2_with fail
    refine bodyPost_ret (v := .tuple #[.agg #[.int .i64 0, .int .i64 0, .string ⟨#[]⟩, .slice none 0 0, .slice none 0 0], .int .i64 9]) (by simp [results, Try.results56, go_sem, z0, z1, z2, z3, z4]; try rfl) rfl ?_
    exact ⟨zeroVa, zeroHd, 9, rfl, res_below HB4.out (Nat.le_succ _), lies_zero _ _, .inr (.inr (.inl ⟨_, HYES.out.1, HYES.out.2, fun e => HK.out (HE.out.1.trans e), rfl, rfl⟩))⟩
  have hk' : ((h'.k : Int) == 4) = true := by simpa using hk
  obtain rfl : bk = 4 := HE.out.1.symm.trans hk
  obtain ⟨rfl, rfl, rfl, rfl⟩ := list_R HBR.out HE.out.2.2.2.2.2
  have HK4 := Lib.hid hk
  clear hk
  have hAB : ∀ b, b < w.heap.size → b < w4.heap.size := fun b hb => by omega
  obtain ⟨us, vs0, hul, -, hrL, hLL, -, -⟩ := HL4.out.rows
  obtain ⟨vs, vs1, hvl, -, hrI, hLI, -, -⟩ := (HSI.out.below HB4.out (Nat.le_refl _)).rows
  have hla : h'.la = us.length := by rw [hul]; exact HE.out.2.2.2.1
  have hbn2 : bn = vs.length := by rw [hvl]; exact HBN.out
  have hul2 : us.length ≤ 200 := by have h1 := len_le_cntL l; have h2 := HBC2.out; simp only [Va.cnt] at h2; omega
  have hSL : SrcAt w4 h'.A h'.la (us.flatMap Hd.cells) := by rw [hla]; exact src_of_row hrL
  have hSI : SrcAt w4 B bn (vs.flatMap Hd.cells) := by rw [hbn2]; exact src_of_row hrI
  have hba := one_alloc w4 (Obj.cells #[.slice h'.A h'.la h'.lc, .slice B bn bc] 22)
  have K6 := Lib.hid (concatV h'.A B h'.la bn h'.lc bc 0 ⟨w4.heap.size, 0, none⟩ (us.flatMap Hd.cells) (vs.flatMap Hd.cells) (w4.alloc (Obj.cells #[.slice h'.A h'.la h'.lc, .slice B bn bc] 22)) (by rw [World.cell?_alloc_new]; rfl) (by rw [World.cell?_alloc_new]; rfl) (by omega) (by omega)
    (hSL.below hba (Nat.le_refl _)) (hSI.below hba (Nat.le_refl _)) (by rw [hla]; exact flat_lenL us) (by rw [hbn2]; exact flat_lenL vs) (flat_oneL us) (flat_oneL vs))
  have HLL := Lib.hid hLL
  have HLI := Lib.hid hLI
  have HLN := Lib.hid (show h'.la + bn = (l ++ ins).length by rw [List.length_append]; have h1 := HE.out.2.2.2.1; have h2 := HBN.out; omega)
  have hln2 : h'.la + bn ≤ 400 := by omega
  clear hrL hLL hrI hLI hla hbn2 hul hvl hba hul2 hSL hSI
  go_wp2_with fail
  refine K6.out.mono ?_
  rintro e w6 ⟨A', c', rfl, hown, hb6⟩
  have hb46 := (after_alloc hb6).1
  have hs6 := hb46.size
  have HOWN := Lib.hid (own_base hown (show w4.heap.size ≤ (w4.alloc (Obj.cells #[.slice h'.A h'.la h'.lc, .slice B bn bc] 22)).heap.size by simp))
  have hc6 := rowIs_below HCX.out hb46 hxl
  have HC6 := Lib.hid hc6
  have HB46 := Lib.hid hb46
  have x3 := hc6.cell (show 3 < 5 by decide)
  have f3 := hc6.frozen 3
  simp only [hdAt, Hd.cells, List.getD_cons_succ, List.getD_cons_zero] at x3
  clear hb6 hown hb46 hc6 K6
  have hxl6 : w1.heap.size < w6.heap.size := by omega
  go_upto_region 7 with fail
  clear x0 x1 x2 x3 x4 f0 f1 f2 f3 f4
  have hr7 : (w6.setCell ⟨w1.heap.size, 3, none⟩ (.slice A' (h'.la + bn) c')).rowIs w1.heap.size 25 5 (hdAt ⟨h'.k, h'.n, h'.s, A', h'.la + bn, c', h'.F, h'.lf, h'.fc⟩) := by
    refine (HC6.out.set 3 _).congr (fun j hj => ?_)
    match j, hj with
    | 0, _ => rfl
    | 1, _ => rfl
    | 2, _ => rfl
    | 3, _ => rfl
    | 4, _ => rfl
  have hk7 : ∀ b, b ≠ w1.heap.size → (w6.setCell ⟨w1.heap.size, 3, none⟩ (.slice A' (h'.la + bn) c')).heap[b]? = w6.heap[b]? := fun b hb => Below.heap_setCell _ _ _ _ hb
  have hs7 : (w6.setCell ⟨w1.heap.size, 3, none⟩ (.slice A' (h'.la + bn) c')).heap.size = w6.heap.size := by simp
  have hb7 : Below w.heap.size w (w6.setCell ⟨w1.heap.size, 3, none⟩ (.slice A' (h'.la + bn) c')) := (HB4.out.trans (HB46.out.mono HB4.out.size)).setCell (by show w.heap.size ≤ w1.heap.size; omega) _
  generalize (w6.setCell ⟨w1.heap.size, 3, none⟩ (.slice A' (h'.la + bn) c')) = w7 at hr7 hk7 hs7 hb7 ⊢
  have HB7 := Lib.hid hb7
  have hs7' : w6.heap.size ≤ w7.heap.size := by omega
  have HK7 := Lib.hid hk7
  have HLX : Hid (Lies w7 (fun b => b < w7.heap.size) (.mk 4 0 ByteArray.empty (l ++ ins) [] []) ⟨h'.k, h'.n, h'.s, A', h'.la + bn, c', h'.F, h'.lf, h'.fc⟩) := Lib.hid (lies_join (w0 := w4) (S := fun b => b < w.heap.size) (xb := w1.heap.size) HK4.out HE.out.2.1 HE.out.2.2.1 HE.out.2.2.2.2.1 HLN.out (by have := HLN.out; unfold maxLen; omega) HLL.out HLI.out (fun b hb => by omega) (fun b hb => by rw [HK7.out b (by omega)]; exact HB46.out.block b (by omega)) (by omega) hs7' HOWN.out hxl (fun b h1 _ => HK7.out b h1))
  have HJS : Hid ((Va.mk 4 0 ByteArray.empty (l ++ ins) [] []).Sh ∧ (Va.mk 4 0 ByteArray.empty (l ++ ins) [] []).cnt ≤ 400) := Lib.hid (by
    have h1 := HBS.out
    have h2 := HIS.out
    have h3 := HBC2.out
    have h4 := HIC.out
    simp only [lsVa, Va.Sh, Va.cnt] at h1 h2 h3 h4 ⊢
    rw [cntL_app, ShL_app]
    exact ⟨⟨h1.1, ⟨h1.2.1, h2.2.1⟩, h1.2.2⟩, by omega⟩)
  have KC := Lib.hid (changed_any (fun b => b < w7.heap.size) (.mk 4 0 ByteArray.empty (l ++ ins) [] []) ⟨h'.k, h'.n, h'.s, A', h'.la + bn, c', h'.F, h'.lf, h'.fc⟩ p a h w7 A m c (fun b hb => hb) (Lies.keep (fun _ _ _ => rfl) (fun b _ hb => hb) _ _ (HS.out.below HB7.out (Nat.le_refl _))) HLX.out (HA.out.below HB7.out (Nat.le_refl _)) HYES.out.1.2.1.2 HM.out hc hp HSH.out (Nat.le_trans HCN.out (by decide)) HJS.out.1 HJS.out.2 (by rw [HYES.out.2]; rfl))
  unfold Hd.val at KC
  have hbv : Bx w7 w.heap.size h := by
    have h1 := HBX4.out.go HB46.out HBX4.out.1
    exact ⟨by have := h1.1; omega, fun j c hj => (World.cell?_of_block (a := ⟨w.heap.size, j, none⟩) (HK7.out _ (by show w.heap.size ≠ w1.heap.size; omega))).trans (h1.2 j c hj)⟩
  have HR7 := Lib.hid (show w7.rowIs (w.heap.size + 1) 25 5 zeroRes from (rowIs_below HRES4.out HB46.out (by omega)).of_block (HK7.out _ (by omega)))
  have q0 := hbv.2 0 _ rfl
  have q1 := hbv.2 1 _ rfl
  have q2 := hbv.2 2 _ rfl
  have q3 := hbv.2 3 _ rfl
  have q4 := hbv.2 4 _ rfl
  have x0 := hr7.cell (show 0 < 5 by decide)
  have x1 := hr7.cell (show 1 < 5 by decide)
  have x2 := hr7.cell (show 2 < 5 by decide)
  have x3 := hr7.cell (show 3 < 5 by decide)
  have x4 := hr7.cell (show 4 < 5 by decide)
  have f0 := hr7.frozen 0
  have f1 := hr7.frozen 1
  have f2 := hr7.frozen 2
  have f3 := hr7.frozen 3
  have f4 := hr7.frozen 4
  simp only [hdAt, Hd.cells, List.getD_cons_succ, List.getD_cons_zero] at x0 x1 x2 x3 x4
  clear hbv hr7 hk7 hb7
  go_wp2_with fail
  refine KC.out.mono ?_
  rintro e w8 ⟨b8, h8, er, rfl, hb8, hl8, ho8⟩
  have HB8 := Lib.hid (HB7.out.trans (hb8.mono HB7.out.size))
  have HR8 := Lib.hid (rowIs_below HR7.out hb8 (by omega))
  have HL8 := Lib.hid hl8
  have HO8 := Lib.hid ho8
  clear hb8 hl8 ho8 KC x0 x1 x2 x4 q0 q1 q2 q3 q4
  have z0 := HR8.out.cell (show 0 < 5 by decide)
  have z1 := HR8.out.cell (show 1 < 5 by decide)
  have z2 := HR8.out.cell (show 2 < 5 by decide)
  have z3 := HR8.out.cell (show 3 < 5 by decide)
  have z4 := HR8.out.cell (show 4 < 5 by decide)
  have g0 := HR8.out.frozen 0
  have g1 := HR8.out.frozen 1
  have g2 := HR8.out.frozen 2
  have g3 := HR8.out.frozen 3
  have g4 := HR8.out.frozen 4
  simp only [hdAt, Hd.cells, List.getD_cons_succ, List.getD_cons_zero] at z0 z1 z2 z3 z4
  go_wp2_with fail
  refine bodyPost_ret (v := .tuple #[.agg #[.int .i64 h8.k, .int .i64 h8.n, .string h8.s, .slice h8.A h8.la h8.lc, .slice h8.F h8.lf h8.fc], .int .i64 er]) (by simp [results, Try.results56, go_sem, z0, z1, z2, z3, z4]; try rfl) rfl ?_
  refine ⟨b8, h8, er, rfl, res_below HB8.out (Nat.le_succ _), ?_, ?_⟩
  · exact Lies.keep (fun q hq _ => World.cell?_of_block (res_set (w := w) _ (fun e => by rw [e] at hq; omega))) (fun _ _ _ => trivial) _ _ HL8.out
  · rcases HO8.out with ⟨h1, h2, h3⟩ | ⟨h1, h2, h3⟩
    · exact .inr (.inr (.inr (.inl ⟨_, HYES.out.1, HYES.out.2, rfl, h1, h2, h3⟩)))
    · exact .inr (.inr (.inr (.inr ⟨_, HYES.out.1, HYES.out.2, rfl, h1, h2, h3⟩)))
end Go.Proofs.Ytmdlcalnncncjaa
