/- path.Find; the reference's next and Find. -/
import Derived.Test.YtmdlcalnncncjaaPTgt
import Derived.Test.YtmdlcalnncncjaaTGet
set_option linter.unusedVariables false
set_option linter.unusedSimpArgs false
namespace Go.Proofs.Ytmdlcalnncncjaa
open Go.RowKit
theorem R_more : ∀ (a : Va) (d e : Nat), a.R d → d ≤ e → a.R e := by
  intro a
  induction a using Va.ind with
  | h k n s l ks f ihl ihf =>
    intro d e h hde
    have up : ∀ (l : List Va), (∀ x ∈ l, ∀ d e : Nat, x.R d → d ≤ e → x.R e) → RL l (d - 1) → RL l (e - 1) := by
      intro l
      induction l with
      | nil => intro _ _; simp [RL]
      | cons x r ih =>
        intro hx hr
        simp only [RL] at hr ⊢
        exact ⟨hx x (by simp) _ _ hr.1 (by omega), ih (fun y hy => hx y (by simp [hy])) hr.2⟩
    simp only [Va.R] at h ⊢
    exact ⟨by omega, h.2.1, h.2.2.1, up l ihl h.2.2.2.1, up f ihf h.2.2.2.2⟩
/-- A step leads to one of them. -/
theorem subV_mem {k n : Int} {t : ByteArray} {l : List Va} {ks : List ByteArray} {f : List Va} {s : St} {x : Va} (h : subV (.mk k n t l ks f) s = some x) : x ∈ l ∨ x ∈ f := by
  simp only [subV] at h
  split at h
  · split at h
    · exact .inl (List.mem_of_getElem? h)
    · exact .inr (List.mem_of_getElem? h)
  · cases h
theorem goV_keeps {P : Va → Prop} (hP : ∀ k n t l ks f, P (.mk k n t l ks f) → ∀ x, x ∈ l ∨ x ∈ f → P x) : ∀ {p : List St} {a b : Va}, P a → goV a p = some b → P b
  | [], a, b, h, hg => by simp only [goV, Option.some.injEq] at hg; subst hg; exact h
  | s :: p, a, b, h, hg => by
    simp only [goV] at hg
    cases hs : subV a s with
    | none => rw [hs] at hg; cases hg
    | some x =>
      rw [hs] at hg
      obtain ⟨k, n, t, l, ks, f⟩ := a
      exact goV_keeps hP (hP _ _ _ _ _ _ h x (subV_mem hs)) hg
theorem goV_sh {p : List St} {a b : Va} (h : a.Sh) (hg : goV a p = some b) : b.Sh := goV_keeps (P := Va.Sh) (fun k n t l ks f h x hx => by
  simp only [Va.Sh] at h
  rcases hx with hx | hx
  · exact ShL_mem h.2.1 hx
  · exact ShL_mem h.2.2.2 hx) h hg
theorem goV_cnt {p : List St} {a b : Va} {m : Nat} (h : a.cnt ≤ m) (hg : goV a p = some b) : b.cnt ≤ m := goV_keeps (P := fun a => a.cnt ≤ m) (fun k n t l ks f h x hx => Nat.le_trans (cnt_sub hx) h) h hg
theorem goV_R {p : List St} {a b : Va} {d : Nat} (h : a.R d) (hg : goV a p = some b) : b.R d := goV_keeps (P := fun a => a.R d) (fun k n t l ks f h x hx => by
  simp only [Va.R] at h
  rcases hx with hx | hx
  · exact R_more x _ _ (RL_mem h.2.2.2.1 hx) (by omega)
  · exact R_more x _ _ (RL_mem h.2.2.2.2 hx) (by omega)) h hg
/-- What Find answers. -/
def FindR (a : Va) (p : List St) (w : World) (e : Ending) (w' : World) : Prop := ∃ (b : Va) (h' : Hd) (ok : Bool), e = .returned (.tuple #[.agg #[.int .i64 h'.k, .int .i64 h'.n, .string h'.s, .slice h'.A h'.la h'.lc, .slice h'.F h'.lf h'.fc], .bool ok]) ∧ Below w.heap.size w w' ∧ Lies w' (fun _ => True) b h' ∧
  ((ok = true ∧ AllR a p [] ∧ goV a p = some b) ∨ (ok = false ∧ b = zeroVa ∧ (AllR a p [] → goV a p = none)))
set_option maxHeartbeats 2000000 in
set_option maxRecDepth 100000 in
theorem find_prog (a : Va) (S : Nat → Prop) (h : Hd) (w : World) (A : Option Addr) (m c : Nat) (p : List St) (H : Lies w S a h) (hsh : a.Sh) (hcn : a.cnt ≤ 1000) (hA : PathAt w A p) (hm : m = p.length) (hc : m ≤ c) (hp : m ≤ 1000) :
    Calls Try.prog 49 #[h.val, .slice A m c] w fun e w' => FindR a p w e w' := by
  have HS := Lib.hid (show Lies w (fun b => b < w.heap.size) a h from Lies.keep (fun _ _ _ => rfl) (fun b _ hb => hb) _ _ H)
  have HSH := Lib.hid hsh
  have HCN := Lib.hid hcn
  unfold Hd.val at *
  have hb2 := two_allocs w (Obj.cells #[.int .i64 h.k, .int .i64 h.n, .string h.s, .slice h.A h.la h.lc, .slice h.F h.lf h.fc] 25) (Obj.cells #[.int .i64 0, .int .i64 0, .string { data := #[] }, .slice none 0 0, .slice none 0 0] 25)
  have K1 := Lib.hid (target_any (fun b => b < w.heap.size) a h _ A m c p none 0 0 [] (fun b hb => by simp; omega) (HS.out.below hb2 (Nat.le_refl _)) hsh hcn (hA.below hb2 (Nat.le_refl _)) hm hc hp (InsAt.nil _ _) rfl (by decide))
  unfold Hd.val at K1
  clear H hsh hcn hA hb2 hm HS
  go_enter Try.func49, Try.ntmps49
  go_wp2_with fail
  refine K1.out.mono ?_
  rintro e w1 ⟨b, h', er, rfl, hb1, hl1, ho1⟩
  obtain ⟨hb2, hbx, hres, hsz⟩ := two_blocks hb1
  have HL1 := Lib.hid hl1
  have HO1 := Lib.hid ho1
  have HB := Lib.hid hb2
  have HRES := Lib.hid hres
  clear hb1 hb2 hbx hres hl1 ho1 K1
  go_upto_region 2 with fail
  have hb4 := one_alloc w1 (Obj.cells #[.int .i64 h'.k, .int .i64 h'.n, .string h'.s, .slice h'.A h'.la h'.lc, .slice h'.F h'.lf h'.fc] 25)
  have hcx := Bx.start w1 h' 25
  generalize w1.alloc (Obj.cells #[.int .i64 h'.k, .int .i64 h'.n, .string h'.s, .slice h'.A h'.la h'.lc, .slice h'.F h'.lf h'.fc] 25) = w4 at hb4 hcx ⊢
  have HB4 := Lib.hid (HB.out.trans (hb4.mono HB.out.size))
  have HRES4 := Lib.hid (rowIs_below HRES.out hb4 (by omega))
  have HL4 := Lib.hid (HL1.out.below hb4 (Nat.le_refl _))
  have x0 := hcx.2 0 _ rfl
  have x1 := hcx.2 1 _ rfl
  have x2 := hcx.2 2 _ rfl
  have x3 := hcx.2 3 _ rfl
  have x4 := hcx.2 4 _ rfl
  have hs4 := hb4.size
  clear hb4 hcx HB HRES HL1
  by_cases he : er = 0
  case neg =>
    have he' := bq_no he
    have HNO : Hid (AllR a p [] → goV a p = none) := Lib.hid (fun hall => by
      rcases HO1.out with ⟨h1, _⟩ | ⟨_, _, _, h2⟩ | ⟨_, h1, _⟩
      · exact absurd hall h1
      · exact h2
      · exact absurd h1 he)
    clear he
    have z0 := HRES4.out.cell (show 0 < 5 by decide)
    have z1 := HRES4.out.cell (show 1 < 5 by decide)
    have z2 := HRES4.out.cell (show 2 < 5 by decide)
    have z3 := HRES4.out.cell (show 3 < 5 by decide)
    have z4 := HRES4.out.cell (show 4 < 5 by decide)
    have g0 := HRES4.out.frozen 0
    have g1 := HRES4.out.frozen 1
    have g2 := HRES4.out.frozen 2
    have g3 := HRES4.out.frozen 3
    have g4 := HRES4.out.frozen 4
    simp only [hdAt, Hd.cells, List.getD_cons_succ, List.getD_cons_zero] at z0 z1 z2 z3 z4
    go_wp2_with fail
    refine bodyPost_ret (v := .tuple #[.agg #[.int .i64 0, .int .i64 0, .string ⟨#[]⟩, .slice none 0 0, .slice none 0 0], .bool false]) (by simp [results, Try.results49, go_sem, z0, z1, z2, z3, z4]; try rfl) rfl ?_
    exact ⟨zeroVa, zeroHd, false, rfl, res_below HB4.out (Nat.le_succ _), lies_zero _ _, .inr ⟨rfl, rfl, HNO.out⟩⟩
  subst he
  have HYES : Hid (AllR a p [] ∧ goV a p = some b) := Lib.hid (by
    rcases HO1.out with ⟨_, h1, _⟩ | ⟨_, h1, _⟩ | ⟨h0, _, h1⟩
    · exact absurd h1 (by decide)
    · exact absurd h1 (by decide)
    · exact ⟨h0, h1⟩)
  have KC := Lib.hid (clone_prog b _ h' w4 HL4.out (goV_sh HSH.out HYES.out.2) (goV_cnt HCN.out HYES.out.2))
  unfold Hd.val at KC
  go_wp2_with fail
  refine KC.out.mono ?_
  rintro e w5 ⟨b5, h5, T5, rfl, hown5, hT5, hb5, hba5, -⟩
  obtain rfl : b5 = b := hba5 (goV_R HYES.out.1.1 HYES.out.2)
  have hs5 := hb5.size
  have HB5 := Lib.hid (HB4.out.trans (hb5.mono HB4.out.size))
  have hres5 := rowIs_below HRES4.out hb5 (by omega)
  have HL5 := Lib.hid (Own.lies _ _ _ hown5)
  have HT5 := Lib.hid hT5
  have z0 := hres5.cell (show 0 < 5 by decide)
  have z1 := hres5.cell (show 1 < 5 by decide)
  have z2 := hres5.cell (show 2 < 5 by decide)
  have z3 := hres5.cell (show 3 < 5 by decide)
  have z4 := hres5.cell (show 4 < 5 by decide)
  have g0 := hres5.frozen 0
  have g1 := hres5.frozen 1
  have g2 := hres5.frozen 2
  have g3 := hres5.frozen 3
  have g4 := hres5.frozen 4
  simp only [hdAt, Hd.cells, List.getD_cons_succ, List.getD_cons_zero] at z0 z1 z2 z3 z4
  clear hres5 hown5 hb5 hba5 hT5 KC x0 x1 x2 x3 x4
  go_wp2_with fail
  refine bodyPost_ret (v := .tuple #[.agg #[.int .i64 h5.k, .int .i64 h5.n, .string h5.s, .slice h5.A h5.la h5.lc, .slice h5.F h5.lf h5.fc], .bool true]) (by simp [results, Try.results49, go_sem, z0, z1, z2, z3, z4]; try rfl) rfl ?_
  refine ⟨b5, h5, true, rfl, res_below HB5.out (Nat.le_succ _), ?_, .inl ⟨rfl, HYES.out.1, HYES.out.2⟩⟩
  exact Lies.keep (fun q hq _ => World.cell?_of_block (res_set (w := w) _ (fun e => by have := (HT5.out _ hq).1; omega))) (fun _ _ _ => trivial) _ _ HL5.out
set_option maxHeartbeats 1000000 in
set_option maxRecDepth 100000 in
theorem next_ref (a : Va) (S : Nat → Prop) (h : Hd) (w : World) (s : St) (H : Lies w S a h) (hs : StR s) (hcn : a.cnt ≤ 1000) :
    Calls Try.prog 87 #[h.val, .agg #[.string s.k, .int .i64 s.a, .bool s.i]] w fun e w' => e = .returned (.int .i64 (mI (subI a s))) ∧ Below w.heap.size w w' := by
  obtain ⟨k, n, t, l, ks, f⟩ := a
  have HOP := Lib.hid H.op
  have HH := Lib.hid H
  simp only [Lies] at H
  obtain ⟨⟨e1, e2, e3, e4, e5, e6⟩, ⟨hkb, _⟩, -⟩ := H
  obtain ⟨hk, hnn, hss, A, la, lc, F, lf, fc⟩ := h
  simp only at e1 e2 e3 e4 e5 e6
  subst e1 e4
  have hlf : lf = ks.length := by omega
  subst hlf
  have hll : l.length ≤ 1000 := by have := len_le_cntL l; simp only [Va.cnt] at hcn; omega
  have hkl : ks.length ≤ 1000 := by have := len_le_cntL f; simp only [Va.cnt] at hcn; omega
  have HE6 := Lib.hid e6
  obtain ⟨sk, sa, si⟩ := s
  have hb2 := two_allocs w (Obj.cells #[.int .i64 hk, .int .i64 hnn, .string hss, .slice A l.length lc, .slice F ks.length fc] 25) (Obj.cells #[.string sk, .int .i64 sa, .bool si] 72)
  have HB2 := Lib.hid hb2
  clear hcn e2 e3 e5 e6
  unfold Hd.val at *
  simp only [subI]
  rcases hs with ⟨e, hk0, h0, hmax⟩ | ⟨e, h0, hr⟩
  · simp only at e hk0 h0 hmax
    subst e
    clear hb2
    rw [if_pos rfl]
    by_cases h4 : hk = 4
    · subst h4
      by_cases hlt : sa < (l.length : Int)
      · rw [if_pos ⟨rfl, hlt⟩]
        have hmi : mI (some sa.toNat) = sa := by show ((sa.toNat : Nat) : Int) = sa; omega
        rw [hmi]
        clear hmi
        go_enter Try.func87, Try.ntmps87
        go_wp2_with fail
        go_ret
        exact ⟨rfl, HB2.out⟩
      · rw [if_neg (fun q => hlt q.2)]
        simp only [mI]
        go_enter Try.func87, Try.ntmps87
        go_wp2_with fail
        go_ret
        exact ⟨rfl, HB2.out⟩
    · rw [if_neg (fun q => h4 q.1)]
      have h4' := bq_no h4
      simp only [mI]
      clear h4
      go_enter Try.func87, Try.ntmps87
      go_wp2_with fail
      go_ret
      exact ⟨rfl, HB2.out⟩
  · simp only at e h0 hr
    subst e h0
    rw [if_neg (by decide)]
    by_cases h5 : hk = 5
    · subst h5
      rw [if_pos rfl]
      have K := Lib.hid (at_ref ks sk ⟨5, hnn, hss, A, l.length, lc, F, ks.length, fc⟩ _ rfl hkl ((HOP.out.keys HE6.out).below hb2 (Nat.le_refl _)))
      unfold Hd.val at K
      simp only at K
      clear hb2
      generalize hmi : mI (kIdx ks sk) = mm
      have HMI := Lib.hid hmi
      clear hmi
      go_enter Try.func87, Try.ntmps87
      go_wp2_with fail
      refine K.out.mono ?_
      rintro e w1 ⟨m, rfl, hp, hb1⟩
      obtain rfl : m = mm := hp.kIdx.trans HMI.out
      have HB1 := Lib.hid (HB2.out.trans (hb1.mono HB2.out.size))
      clear hp hb1 K
      go_wp2_with fail
      go_ret
      exact ⟨rfl, HB1.out⟩
    · rw [if_neg h5]
      have h5' := bq_no h5
      have h5n : (hk != 5) = true := by simp [h5]
      simp only [mI]
      clear h5 hb2
      go_enter Try.func87, Try.ntmps87
      go_wp2_with fail
      go_ret
      exact ⟨rfl, HB2.out⟩
end Go.Proofs.Ytmdlcalnncncjaa
