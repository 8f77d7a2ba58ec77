/- dyn.build of values, walked. -/
import Derived.Test.YtlhmdbloddpfbaaDBldC
import Derived.Test.YtlhmdbloddpfbaaDCmp
import Derived.BigQuiet
import Derived.Deep.RegionHeld3
set_option linter.unusedVariables false
set_option linter.unusedSimpArgs false
namespace Go.Proofs.Ytlhmdbloddpfbaa
open Go.RowKit
/-- The load of what is made, under a name. -/
def ldM : Op := Op.load 20 (Operand.tmp 99)
/-- What build answers: what it is, or, where a list is in the list, that it gives up. -/
def BldR (a : Va) (w : World) (e : Ending) (w' : World) : Prop := ((∃ x, e = .returned (.tuple #[x, .bool true]) ∧ Ls w' (fun b => w.heap.size ≤ b) a x) ∨ (e = .returned (.tuple #[.nilIface, .bool false]) ∧ a.Deep)) ∧ Below w.heap.size w w'
theorem cmp_here {w0 wm : World} {a c : Va} {q0 p q' : Addr} {fr : Fm} {r : List Fm} {Q cap : Nat} {u' : Hd} {cq : Array Value} {tq : TypeId} (H : St w0 a q0 (fr :: r) Q cap wm) (hpA : At5 w0 p u') (hst : Stp w0 fr.a fr.h c p u') (hne : p ≠ q') (hq : ∃ v, w0.cell? q' = some v) (h0 : r = [] → q' = q0) (hpl : w0.heap[q0.block]? = some (.cells cq tq (0, 0))) :
    ∃ rr w', (binOp .eql 82 (.pointer (some p)) (.pointer (some q'))).run Try.prog wm = .ok (.bool rr) w' ∧ Below wm.heap.size wm w' ∧ (rr = true → r ≠ []) := by
  have hp0 := hpA.1
  have hpb : p.block < w0.heap.size := World.block_lt_of_cell? w0 _ hp0
  have hp : wm.cell? p = some _ := (H.bel.cell hpb).trans hp0
  obtain ⟨v, hv⟩ := hq
  have hqb : q'.block < w0.heap.size := World.block_lt_of_cell? w0 _ hv
  by_cases hr : r = []
  · cases h0 hr
    exact ⟨false, wm, cmp_plain hp ((H.bel.block _ hqb).trans hpl) hne, Below.refl _ _, fun e => by cases e⟩
  · obtain ⟨rr, w', h1, h2⟩ := cmp_any hp ((H.bel.cell hqb).trans hv) hne ((H.bel.frozen hpb).trans (H.stk.1.un _ _ _ (.one hst)))
    refine ⟨rr, w', h1, ?_, fun _ => hr⟩
    rcases h2 with rfl | rfl
    · exact Below.refl _ _
    · exact (Below.refl _ _).drew
set_option maxHeartbeats 4000000 in
set_option maxRecDepth 100000 in
theorem build_any (a : Va) (u : Hd) (q : Addr) (w : World) (cq : Array Value) (tq : TypeId) (H : Lies w (fun b => b < w.heap.size) a u) (hq : At5 w q u) (hun : Un w a u) (hpl : w.heap[q.block]? = some (.cells cq tq (0, 0))) (hsh : a.Sh) (hcn : a.cnt ≤ 60) :
    Calls Try.prog 71 #[.pointer (some q), .func (.func 72) #[] #[], .func (.func 73) #[] #[]] w fun e w' => BldR a w e w' := by
  have HB := Lib.hid (begin_any a w.heap.size u q w H hq hsh (by omega))
  have HH := Lib.hid H
  have HQ := Lib.hid hq
  have HSH := Lib.hid hsh
  have HUN := Lib.hid hun
  have HPL := Lib.hid hpl
  clear H hq hsh hun hpl
  go_enter Try.func71, Try.ntmps71
  go_wp2_with fail
  refine HB.out.mono ?_
  rintro e w1 ⟨ins, made, ps, rfl, hK, hF, hb⟩
  have HI := Lib.hid (hF _ (.inr (Nat.le_refl _))).isI
  obtain ⟨I, c, rfl, -, -⟩ := (hF _ (.inr (Nat.le_refl _))).ins
  have HST := Lib.hid (St.start HQ.out HH.out HSH.out HUN.out hK hF hb)
  clear hK hF hb HB
  go_upto_region 2 with fail
  go_cut [10] from 24 to 28 (fun v wc => Rel w a q v wc)
  case first =>
    rcases HI.out with rfl | ⟨t, v, rfl⟩
    · go_wp2_with fail
      go_meet
      exact ⟨_, _, [], _, _, rfl, HST.out, rfl⟩
    · go_wp2_with fail
      go_meet
      exact ⟨_, _, [], _, _, rfl, HST.out, rfl⟩
  case rest =>
    clear HST HI
    obtain ⟨i0, hi0, hz0, hz1, hz2⟩ := info_parts info112
    go_wp2_with fail
    go_loopw [10] (fun v wr => Rel w a q v wr) (fun v wr => muOf w a q v wr)
    case atStart => exact hcut
    case round =>
      obtain ⟨fr, r, Q, cap, rfl, hS, hm⟩ := hrel.min
      have HS := Lib.hid hS
      have HM := Lib.hid hm
      obtain ⟨c0, c1, c2, c3⟩ := hS.cell
      have hdp := hS.dep.1
      obtain ⟨I, ci, hI, hjk, hin⟩ := hS.stk.1.fo.ins
      rw [hI] at c1
      have hkl := kids_len fr.a
      clear hS hm hrel
      by_cases hlt : fr.j < fr.a.kids.length
      · obtain ⟨bI, rfl, hbI, hInI, cI⟩ := hin hlt
        obtain ⟨p, u', hp, hpb, hpA, hpL, hpS⟩ := HS.out.stk.1.kid fr.j _ (List.getElem?_eq_getElem hlt)
        rw [hp] at cI
        have hmk : ∀ wz, Calls Try.prog 97 #[.int .i64 ((r.length : Int) + 1)] wz fun e w' => MarkR (r.length + 1) wz e w' := fun wz => mark_any wz (r.length + 1) (by omega) (by omega)
        have HMK := Lib.hid hmk
        have HPA := Lib.hid hpA
        have HPO := Lib.hid hpL
        have HPS := Lib.hid hpS
        have HKC := Lib.hid (List.getElem?_eq_getElem hlt)
        clear hmk hpA hpL hpS hp hin
        go_wp2_with fail
        go_quiet (fail)
        go_wp2_with fail
        go_quiet (fail)
        go_wp2_with fail
        have hbd : ∀ n, Below wr.heap.size wr (wr.drewN n) := fun n => below_drewN' (Below.refl _ _) n
        generalize hw2 : wr.drewN _ = w2
        have hb2 : Below wr.heap.size wr w2 := by rw [← hw2]; exact hbd _
        have HS2 := Lib.hid (HS.out.go hb2)
        clear hbd hw2 hb2 c0 c1 c2 c3 cI HS
        refine (HMK.out _).mono ?_
        rintro e wm ⟨m, hml, rfl, rfl⟩
        obtain ⟨q', cq', hpq, hqv, hq0⟩ := HS2.out.mark (kids_cnt HKC.out) HPA.out HPO.out hml
        have hm1 : (m : Int) < (r.length : Int) + 1 := by omega
        obtain ⟨rr, w4, hcmp, hb4, hrr⟩ := cmp_here HS2.out HPA.out HPS.out hpq hqv hq0 HPL.out
        have HS4 := Lib.hid (HS2.out.go hb4)
        have HRR := Lib.hid hrr
        clear hpq hqv hq0 hb4 hrr HS2
        cases rr
        · have hbs := HS4.out.bel.size
          have HBG := Lib.hid (begin_any fr.a.kids[fr.j] w.heap.size u' p w4 (Lies.keep (fun z hz _ => HS4.out.bel.cell hz) (fun b hb _ => hb) _ _ HPO.out) (HPA.out.below HS4.out.bel hpb) (kids_sh HKC.out HS4.out.stk.1.sh) (by have := kids_cnt HKC.out; omega))
          clear HRR
          go_wp2_with fail
          refine HBG.out.mono ?_
          rintro e w5 ⟨ins', made', ps', rfl, hK5, hF5, hb5⟩
          have HI5 := Lib.hid (hF5 _ (.inr (Nat.le_refl _))).isI
          obtain ⟨I5, ci5, rfl, -, -⟩ := (hF5 _ (.inr (Nat.le_refl _))).ins
          have HK5 := Lib.hid hK5
          have HF5 := Lib.hid hF5
          have HB5 := Lib.hid hb5
          have HO5 := Lib.hid (own_below HS4.out.own hb5 (Nat.le_refl _))
          have hs5 := hb5.size
          have K3 := Lib.hid (show r.length + 1 + 1 ≤ maxLen by unfold maxLen; omega)
          have K4 := Lib.hid (show (r.length + 1 + 1) * 56 ≤ 140737488355328 by omega)
          have K5 := Lib.hid (show ∀ o : Obj, w.heap.size ≤ (w5.alloc o).heap.size from fun o => by simp; omega)
          clear hK5 hF5 hb5 HBG hcmp
          rcases HI5.out with rfl | ⟨t5, v5, rfl⟩
          · go_wp2_with (at_builtin; refine wpList_append_own_at _ rfl _ _ 113 rfl w.heap.size 112 i0 _ 4 56 Try.underlying113 hi0 hz0 hz1 hz2 rfl (by decide) (.slice (some ⟨Q, 0, none⟩) (r.length + 1) cap) (r.length + 1) (cellsOf (fr :: r)) rfl (HO5.out.alloc _) ⟨w5.heap.size, 0, none⟩ 1 1 [.pointer (some p), .slice I5 fr.a.kids[fr.j].kids.length ci5, .int .i64 0, .nilIface] rfl rfl (World.news_of_block (heap_alloc_new w5 _)) (by simp [Value.oneCell']) K3.out K4.out (K5.out _) ?_; intro v6 w6 hown6 hgrow6 hnil6 hat6; obtain ⟨g6, cap6, hv6, -, -⟩ := hown6.form (Nat.succ_pos _); subst hv6; have HO6 := Lib.hid hown6; have HG6 := Lib.hid hgrow6; have HT6 := Lib.hid hat6; clear hown6 hgrow6 hnil6 hat6)
            refine Rel.less ⟨_, fr :: r, g6, cap6, rfl, HS4.out.push (o := Obj.cells #[.pointer (some p), .slice I5 fr.a.kids[fr.j].kids.length ci5, .int .i64 0, .nilIface] 112) HKC.out HPA.out HPO.out HPS.out HK5.out HF5.out HB5.out HO6.out HG6.out ?_, rfl⟩ ?_
            · rcases HT6.out with e | e
              · injection e with e
                exact .inl e
              · injection e with e
                exact .inr (by simpa using e)
            · rw [← HM.out]
              exact mu_push HKC.out rfl
          · go_wp2_with (at_builtin; refine wpList_append_own_at _ rfl _ _ 113 rfl w.heap.size 112 i0 _ 4 56 Try.underlying113 hi0 hz0 hz1 hz2 rfl (by decide) (.slice (some ⟨Q, 0, none⟩) (r.length + 1) cap) (r.length + 1) (cellsOf (fr :: r)) rfl (HO5.out.alloc _) ⟨w5.heap.size, 0, none⟩ 1 1 [.pointer (some p), .slice I5 fr.a.kids[fr.j].kids.length ci5, .int .i64 0, .iface t5 v5] rfl rfl (World.news_of_block (heap_alloc_new w5 _)) (by simp [Value.oneCell']) K3.out K4.out (K5.out _) ?_; intro v6 w6 hown6 hgrow6 hnil6 hat6; obtain ⟨g6, cap6, hv6, -, -⟩ := hown6.form (Nat.succ_pos _); subst hv6; have HO6 := Lib.hid hown6; have HG6 := Lib.hid hgrow6; have HT6 := Lib.hid hat6; clear hown6 hgrow6 hnil6 hat6)
            refine Rel.less ⟨_, fr :: r, g6, cap6, rfl, HS4.out.push (o := Obj.cells #[.pointer (some p), .slice I5 fr.a.kids[fr.j].kids.length ci5, .int .i64 0, .iface t5 v5] 112) HKC.out HPA.out HPO.out HPS.out HK5.out HF5.out HB5.out HO6.out HG6.out ?_, rfl⟩ ?_
            · rcases HT6.out with e | e
              · injection e with e
                exact .inl e
              · injection e with e
                exact .inr (by simpa using e)
            · rw [← HM.out]
              exact mu_push HKC.out rfl
        · have HDE := Lib.hid (HS4.out.deep (HRR.out rfl) hlt)
          clear hbI hInI HRR
          go_wp2_with fail
          go_ret2
          exact ⟨.inr ⟨rfl, HDE.out⟩, HS4.out.bel⟩
      · have hjd : fr.a.kids.length ≤ fr.j := by omega
        have hIM := HS.out.stk.1.fo.isI
        have hcap := own_cap HS.out.own
        have hbd : ∀ n, Below wr.heap.size wr (wr.drewN n) := fun n => below_drewN' (Below.refl _ _) n
        have HBD := Lib.hid hbd
        have HJD := Lib.hid hjd
        obtain ⟨mv, hmv⟩ : ∃ mv, mv = fr.made := ⟨_, rfl⟩
        rw [← hmv] at c3 hIM
        have HMV := Lib.hid hmv
        clear hin hbd hmv hjd
        cases r with
        | nil =>
          simp only [List.length_nil, List.length_cons, Nat.zero_mul, Nat.zero_add] at c0 c1 c2 c3 hcap
          have HL : Hid (∀ n, Ls (wr.drewN n) (fun b => w.heap.size ≤ b) a mv ∧ Below w.heap.size w (wr.drewN n)) := Lib.hid fun n => ⟨by rw [HMV.out]; exact (HS.out.go (HBD.out n)).last HJD.out, (HS.out.go (HBD.out n)).bel⟩
          clear HMV
          rcases hIM with rfl | ⟨t3, v3, rfl⟩
          all_goals
            go_wp2_with fail
            go_quiet (fail)
            go_wp2_with fail
            go_ret2
            exact ⟨.inl ⟨_, rfl, (HL.out _).1⟩, (HL.out _).2⟩
        | cons fr2 r2 =>
          simp only [List.length_cons] at c0 c1 c2 c3 hcap hdp
          rcases hIM with rfl | ⟨t3, v3, rfl⟩
          all_goals
            go_wp2_with fail
            go_quiet (fail)
            go_wp2_with fail
            generalize hw2 : wr.drewN _ = w2
            have hb2 : Below wr.heap.size wr w2 := by rw [← hw2]; exact HBD.out _
            have HS2 := Lib.hid ((HS.out.go hb2).go ((Below.refl w2.heap.size w2).drew))
            obtain ⟨x2, x3, xf⟩ := HS2.out.cell2
            obtain ⟨t4, v4, hm4⟩ := HS2.out.stk.2.1.1.fo.iface (fun e => by have hk := HS2.out.stk.2.2 fr2 r2 rfl; rw [e] at hk; simp at hk)
            have hj2 : fr2.j ≤ 1000 := by
              obtain ⟨_, _, _, h2, _⟩ := HS2.out.stk.2.1.1.fo.ins
              have := kids_len fr2.a
              have := HS2.out.dep.2.1
              omega
            have hpu := HS2.out.put HJD.out
            have hpu2 : Calls Try.prog 73 #[fr2.made, .int .i64 fr2.j, fr.made] w2.drew (fun e w3 => e = .returned (.iface t4 v4) ∧ PutR fr2.b fr.b w2.drew.heap.size Q fr2.a fr2.ins fr2.made fr2.ps fr2.j w2.drew e w3) := hpu.mono fun e w3 hP => ⟨by rw [← hm4]; exact hP.1, hP⟩
            rw [show (#[fr2.made, .int .i64 fr2.j, fr.made] : Array Value) = #[.iface t4 v4, .int .i64 fr2.j, fr.made] by rw [hm4], ← HMV.out] at hpu2
            rw [hm4] at x3
            have HPU := Lib.hid hpu2
            have HX2 := Lib.hid x2
            have HX3 := Lib.hid x3
            have HXF := Lib.hid xf
            have KP2 := Lib.hid (show ∀ e w3, PutR fr2.b fr.b w2.drew.heap.size Q fr2.a fr2.ins fr2.made fr2.ps fr2.j w2.drew e w3 → w3.cell? ⟨Q, r2.length * 4 + 2, none⟩ = some (.int .i64 fr2.j) from fun e w3 hP => (put_keeps hP _).1.trans HX2.out)
            have KP3 := Lib.hid (show ∀ e w3, PutR fr2.b fr.b w2.drew.heap.size Q fr2.a fr2.ins fr2.made fr2.ps fr2.j w2.drew e w3 → ∀ v, (w3.setCell ⟨Q, r2.length * 4 + 3, none⟩ v).cell? ⟨Q, r2.length * 4 + 2, none⟩ = some (.int .i64 fr2.j) from fun e w3 hP v => (World.cell?_setCell_other _ _ _ _ (by simp)).trans (KP2.out e w3 hP))
            have HM4 := Lib.hid hm4
            clear c0 c1 c2 c3 hw2 hb2 hpu hpu2 xf hm4 HBD HS
            have hld : ldM = Op.load 20 (Operand.tmp 99) := rfl
            rw [show Op.load 20 (Operand.tmp 99) = ldM from rfl]
            go_region_held3 (fun w' => w'.cell? ⟨Q, r2.length * 4 + 2, none⟩ = some (.int .i64 fr2.j))
              (first
                | (with_reducible exact KP3.out _ _ hP _)
                | (with_reducible exact KP2.out _ _ hP)
                | (with_reducible exact HX2.out)
                | skip)
              (first
                | (go_at_call 73; refine HPU.out.mono ?_; rintro e w3 ⟨rfl, hP⟩; have y3 := (put_keeps hP _).1.trans HX3.out; have f3 := (put_keeps hP (r2.length * 4 + 3)).2.trans (HXF.out _); have f2 := (put_keeps hP (r2.length * 4 + 2)).2.trans (HXF.out _))
                | fail)
            all_goals go_wp2_with fail
            all_goals rw [← HM4.out]
            all_goals exact Rel.less ⟨{ fr2 with j := fr2.j + 1 }, r2, Q, cap, rfl, HS2.out.pop hP, rfl⟩ (by rw [← HM.out]; exact mu_pop)
end Go.Proofs.Ytlhmdbloddpfbaa
