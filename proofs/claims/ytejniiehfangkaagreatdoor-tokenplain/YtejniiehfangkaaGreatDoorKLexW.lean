/- All tokens of a text: token.Lex's loop, walked. -/
import Derived.Test.YtejniiehfangkaaGreatDoorKLex
set_option linter.unusedVariables false
set_option linter.unusedSimpArgs false
namespace Go.Proofs.YtejniiehfangkaaGreatDoor
open Go.RowKit
theorem own_setQ {w : World} {Q : Nat} {e : TypeId} {size : Nat} {v : Value} {n : Nat} {xs : List Value} {a b : Int} (h : w.ownsRow (Q + 1) e size v n xs) : (resF w Q a b).ownsRow Q e size v n xs :=
  Joins.ownsRow_le (ownsRow_setCell_below (ownsRow_setCell_below h (a := ⟨Q, 0, none⟩) (Nat.lt_succ_self _) _) (a := ⟨Q, 1, none⟩) (Nat.lt_succ_self _) _) (Nat.le_succ _)
/-- What the last one is. -/
theorem last_at {ts : List Tkn} {w : World} {ad : Addr} {n cap B : Nat} (h : w.ownsRow B 41 3 (.slice (some ad) n cap) n (tkCs ts)) (m : Nat) (hm : ts.length = m + 1) : ∃ k : Nat, w.cell? (ad.add (m * 3)) = some (.int .i64 (k : Nat)) ∧ ((k : Int) == 3) = nbT ts := by
  obtain ⟨t, ht⟩ : ∃ t, ts[m]? = some t := ⟨ts[m]'(by omega), List.getElem?_eq_getElem _⟩
  have hg : ts.getLast? = some t := by rw [List.getLast?_eq_getElem?, hm, Nat.add_sub_cancel]; exact ht
  refine ⟨t.k, ?_, ?_⟩
  · rcases h.2 with ⟨h1, _⟩ | ⟨g, cap', cur, h1, h2, h3, h4, h5, h6, h7⟩
    · cases h1
    · cases h1
      have hadd : ∀ j, (⟨g, 0, none⟩ : Addr).add j = ⟨g, j, none⟩ := fun j => by unfold Addr.add; split <;> simp_all
      rw [hadd, cell_of_row w g (m * 3) cur _ _ h3]
      have hc := tkCs_at ts m t 0 (.int .i64 (t.k : Nat)) ht rfl
      rw [Nat.add_zero, ← h7, List.getElem?_take] at hc
      split at hc
      · simpa using hc
      · cases hc
  · unfold nbT
    rw [hg]
    simp only
    rw [Bool.eq_iff_iff]
    simp only [beq_iff_eq]
    omega
theorem own_shape {w : World} {base : Nat} {e : TypeId} {size : Nat} {v : Value} {n : Nat} {xs : List Value} (h : w.ownsRow base e size v n xs) : ∃ ao cap, v = .slice ao n cap ∧ (n ≠ 0 → ∃ ad, ao = some ad) := by
  rcases h.2 with ⟨h1, h2⟩ | ⟨g, cap, cur, h1, _⟩
  · subst h2; exact ⟨none, 0, h1, fun h => absurd rfl h⟩
  · exact ⟨_, _, h1, fun _ => ⟨_, rfl⟩⟩
theorem nl_any {ts : List Tkn} {w : World} {ao : Option Addr} {cap B : Nat} (h : w.ownsRow B 41 3 (.slice ao ts.length cap) ts.length (tkCs ts)) (hn : ts.length ≤ 1000000) : Calls Tryz.prog 20 #[.slice ao ts.length cap] w fun e w' => e = .returned (.bool (nbT ts)) ∧ w = w' := by
  rcases Nat.eq_zero_or_pos ts.length with h0 | h0
  · have hts : ts = [] := List.eq_nil_of_length_eq_zero h0
    rw [hts]
    exact nl_none ao cap w
  · obtain ⟨m, hm⟩ : ∃ m, ts.length = m + 1 := ⟨ts.length - 1, by omega⟩
    obtain ⟨ao', cap', h1, h2⟩ := own_shape h
    cases h1
    obtain ⟨ad, rfl⟩ := h2 (by omega)
    obtain ⟨k, hk, hk3⟩ := last_at h m hm
    have := nl_some ad m cap k w (by omega) hk
    rw [← hm, hk3] at this
    exact this
theorem ptB_int (c : UInt8) : ptB c = ((isL (c.toNat : Int) || isD (c.toNat : Int)) || ((c.toNat : Int) == 46)) := by
  unfold ptB nmB lrB dgB
  congr 1
  rw [Bool.eq_iff_iff]
  simp
  omega
theorem alloc2_new (w : World) (o o' : Obj) : ((w.alloc o).alloc o').heap[w.heap.size + 1]? = some o' := by
  have := heap_alloc_new (w.alloc o) o'
  rwa [show (w.alloc o).heap.size = w.heap.size + 1 by simp] at this
/-- One token more. -/
theorem LxI.put {x : ByteArray} {G : Toks} {w w3 w6 : World} {v v' : Value} {ts : List Tkn} {e f f' e' m k : Nat} {s : List UInt8} {o o' : Obj} (h : LxI x G w v ts e f w3) (hg : ((w3.alloc o).alloc o').grownBy w6 v.ownBlock) (hown : w6.ownsRow (w.heap.size + 1) 41 3 v' (ts.length + 1) (tkCs ts ++ [.int .i64 (k : Nat), .string ⟨s.toArray⟩, .int .i64 (e' : Nat)]))
    (he : e ≤ e') (hm : 1 ≤ m) (hes : e' + m ≤ x.size) (hf : x.size < e' + m + f') (hG : G = consT ts (consT [⟨k, s, e'⟩] (lexF f' (x.data.toList.drop (e' + m)) (e' + m) (ts.length + 1) (k == 3)))) : LxI x G w v' (ts ++ [⟨k, s, e'⟩]) (e' + m) f' w6 := by
  have hlo := fun j hj => (h.own.lt j hj).1
  have hz := h.bel.size
  refine ⟨hes, ?_, ?_, ?_, ?_, hf, ?_⟩
  · have := h.hlen; simp only [List.length_append, List.length_singleton]; omega
  · rw [tkCs_snoc, List.length_append]; exact hown
  · refine Below.grown ((h.bel.alloc hz o).alloc (by simp; omega) o') hg (by simp; omega) (fun j hj => ?_)
    have := hlo j hj; omega
  · have hq : some w.heap.size ≠ v.ownBlock := fun e => by have := hlo _ e.symm; omega
    have hl : w.heap.size < ((w3.alloc o).alloc o').heap.size := by have := h.flt.lt; simp; omega
    have h1 : ((w3.alloc o).alloc o').heap[w.heap.size]? = w3.heap[w.heap.size]? := by
      rw [Below.heap_alloc _ _ _ (by have := h.flt.lt; simp; omega), Below.heap_alloc _ _ _ h.flt.lt]
    exact (hg.block _ hl hq).trans (h1.trans h.flt)
  · rw [hG, consT_consT, List.length_append]
    have : nbT (ts ++ [⟨k, s, e'⟩]) = (k == 3) := by unfold nbT; rw [List.getLast?_append]; rfl
    rw [this]; rfl
theorem ext_drop (x : ByteArray) (e : Nat) : (x.extract e x.size).data.toList = x.data.toList.drop e := by rw [Lib.extract_data, List.take_of_length_le (by rw [List.length_drop, ← Lib.size_eq]; omega)]
set_option maxHeartbeats 4000000 in
set_option maxRecDepth 100000 in
theorem lex_go (x : ByteArray) (hs : x.size ≤ 4000) (hb : badI x < 0) (w : World) (h : LV w) : Calls Tryz.prog 10 #[.string x] w (LxP (lexL x.data.toList) w) := by
  have HLV := Lib.hid h
  have HF := Lib.hid (show Flt (w.alloc zF) w.heap.size from heap_alloc_new w zF)
  have HB0 := Lib.hid ((Below.refl w.heap.size w).alloc (Nat.le_refl _) zF)
  have HS0 := Lib.hid (show (w.alloc zF).heap.size = w.heap.size + 1 by simp)
  have hgt : decide ((4000 : Int) < (x.size : Int)) = false := decide_eq_false (by omega)
  have KB : Hid (∀ W, Calls Tryz.prog 18 #[.string x] W fun e w' => e = .returned (.int .i64 (badI x)) ∧ Below W.heap.size W w') := Lib.hid (fun W => bad_any x (by unfold maxLen; omega) W)
  generalize badI x = bd at hb KB
  have hge : decide ((0 : Int) ≤ bd) = false := decide_eq_false (by omega)
  obtain ⟨G, hG0⟩ : ∃ G, lexL x.data.toList = G := ⟨_, rfl⟩
  have HG0 := Lib.hid hG0
  rw [hG0]
  obtain ⟨i0, hi, hz0, hz1, hz2⟩ := info_parts infoT
  clear h hG0
  go_enter Tryz.func10, Tryz.ntmps10
  go_wp2_with fail
  generalize w.alloc zF = w0 at HF HB0 HS0 ⊢
  refine (KB.out w0).mono ?_
  rintro e w1 ⟨rfl, hb1⟩
  have HI0 : Hid (LxI x G w (.slice none 0 0) [] 0 (x.size + 1) w1) := Lib.hid ⟨Nat.zero_le _, Nat.le_refl _, World.ownsRow_nil _ _ _ _, HB0.out.trans (hb1.mono (by rw [HS0.out]; omega)), (hb1.block _ (by rw [HS0.out]; omega)).trans HF.out, by omega, by rw [consT_nil, List.drop_zero, ← HG0.out]; unfold lexL; rw [← Lib.size_eq]; rfl⟩
  clear hb1 KB HF HB0 HS0
  go_wp2_with fail
  go_loopw [5, 6] (fun v v6 wr => ∃ (ts : List Tkn) (e f : Nat), v6 = .int .i64 (e : Nat) ∧ LxI x G w v ts e f wr) (fun _ v6 _ => x.size - (intOf v6).toNat)
  case atStart => exact ⟨[], 0, x.size + 1, rfl, HI0.out⟩
  case round =>
    obtain ⟨ts, e, f, rfl, hI⟩ := hrel
    clear HI0
    obtain ⟨ao, cap, rfl, hao⟩ := own_shape hI.own
    have HAO := Lib.hid hao
    clear hao
    obtain ⟨f', rfl⟩ : ∃ f', f = f' + 1 := ⟨f - 1, by have := hI.hf; have := hI.hes; omega⟩
    have HI := Lib.hid hI
    have hes := hI.hes
    have hlen := hI.hlen
    clear hI
    obtain ⟨b, hbb⟩ : ∃ b, betw false (x.data.toList.drop e) = b := ⟨_, rfl⟩
    have hble : e + b ≤ x.size := by
      have := betw_le false (x.data.toList.drop e)
      rw [hbb, List.length_drop, ← Lib.size_eq] at this
      omega
    have KT : Hid (∀ W, Calls Tryz.prog 19 #[.string (x.extract e x.size)] W fun e w' => e = .returned (.int .i64 (b : Nat)) ∧ Below W.heap.size W w') := Lib.hid (fun W => by
      have := between_any (x.extract e x.size) (by rw [ByteArray.size_extract]; omega) W
      rw [ext_drop, hbb] at this
      exact this)
    have HBB := Lib.hid hbb
    have HLL : Hid ((x.data.toList.drop e).length = x.size - e) := Lib.hid (by rw [List.length_drop, ← Lib.size_eq])
    clear hbb
    by_cases hA : e + b = x.size
    · have HGA : Hid (G = .inl ts) := Lib.hid (by
        rw [← HI.out.hG, lexF_end (by rw [HBB.out, HLL.out]; omega)]
        simp [consT])
      have heq : (((e : Int) + (b : Int)) == (x.size : Int)) = true := by simp; omega
      go_wp2_with fail
      refine (KT.out wr).mono ?_
      rintro e' w1 ⟨rfl, hb1⟩
      have HI1 := Lib.hid (HI.out.go hb1)
      clear hb1 KT
      have z0 := HI1.out.flt.row.cell (show 0 < 2 by decide)
      have z1 := HI1.out.flt.row.cell (show 1 < 2 by decide)
      have g0 := HI1.out.flt.row.frozen 0
      have g1 := HI1.out.flt.row.frozen 1
      simp only [t2, List.getD_cons_succ, List.getD_cons_zero] at z0 z1
      go_wp2_with fail
      refine bodyPost_ret (v := .tuple #[.slice ao ts.length cap, .agg #[.int .i64 0, .int .i64 0]]) (by simp [results, Tryz.results10, go_sem, z0, z1]; try rfl) rfl ?_
      rw [HGA.out]
      exact ⟨resF_below HI1.out.bel (Nat.le_refl _), _, rfl, own_setQ HI1.out.own⟩
    have hlt : e + b < x.size := by omega
    have heq : (((e : Int) + (b : Int)) == (x.size : Int)) = false := by simp; omega
    have HLT : Hid (betw false (x.data.toList.drop e) < (x.data.toList.drop e).length) := Lib.hid (by rw [HBB.out, HLL.out]; omega)
    by_cases hN : ts.length = 900
    · have HGA : Hid (G = .inr (6, e + b)) := Lib.hid (by
        rw [← HI.out.hG, lexF_many HLT.out hN, HBB.out]; rfl)
      have hN9 : ((ts.length : Int) == 900) = true := by simp; omega
      go_wp2_with fail
      refine (KT.out wr).mono ?_
      rintro e' w1 ⟨rfl, hb1⟩
      have HI1 := Lib.hid (HI.out.go hb1)
      clear hb1 KT
      have z0 := HI1.out.flt.row.cell (show 0 < 2 by decide)
      have z1 := HI1.out.flt.row.cell (show 1 < 2 by decide)
      have g0 := HI1.out.flt.row.frozen 0
      have g1 := HI1.out.flt.row.frozen 1
      simp only [t2, List.getD_cons_succ, List.getD_cons_zero] at z0 z1
      go_wp2_with fail
      refine bodyPost_ret (v := .tuple #[.slice none 0 0, .agg #[.int .i64 6, .int .i64 ((e : Int) + (b : Int))]]) (by simp [results, Tryz.results10, go_sem, z0, z1]; try rfl) rfl ?_
      rw [HGA.out]
      exact ⟨resF_below HI1.out.bel (Nat.le_refl _), show _ = Ending.returned (.tuple #[.slice none 0 0, .agg #[.int .i64 6, .int .i64 ((e + b : Nat) : Int)]]) from by rw [Int.natCast_add]⟩
    have hN9 : ((ts.length : Int) == 900) = false := by simp; omega
    by_cases hP : b = 0 ∧ nbT ts = true ∧ hdP (x.data.toList.drop e) = true
    · obtain ⟨hb0, hnb, hpt⟩ := hP
      have HGA : Hid (G = .inr (3, e)) := Lib.hid (by
        rw [← HI.out.hG, lexF_part HLT.out hN ⟨by rw [HBB.out]; exact hb0, hnb, hpt⟩]; rfl)
      subst hb0
      have hab : e < x.size := by omega
      have HPT := Lib.hid (show hdP (x.data.toList.drop e) = ((isL ((x[e]'hab).toNat : Int) || isD ((x[e]'hab).toNat : Int)) || (((x[e]'hab).toNat : Int) == 46)) by
        rw [drop_cons x e hab, ← ptB_int, ← get_bang x e hab]; rfl)
      rw [HPT.out] at hpt
      have HPQ := Lib.hid hpt
      have HNB := Lib.hid hnb
      clear hpt hnb HPT
      go_wp2_with fail
      refine (KT.out wr).mono ?_
      rintro e' w1 ⟨rfl, hb1⟩
      have HI1 := Lib.hid (HI.out.go hb1)
      clear hb1 KT
      go_wp2_with fail
      refine (nl_any (ts := ts) HI1.out.own (by omega)).mono ?_
      rintro e' w2 ⟨rfl, rfl⟩
      rw [HNB.out]
      go_wp2_with fail
      refine (partsNumber_any _ w1).mono ?_
      rintro e' w2 ⟨rfl, rfl⟩
      rw [HPQ.out]
      have z0 := HI1.out.flt.row.cell (show 0 < 2 by decide)
      have z1 := HI1.out.flt.row.cell (show 1 < 2 by decide)
      have g0 := HI1.out.flt.row.frozen 0
      have g1 := HI1.out.flt.row.frozen 1
      simp only [t2, List.getD_cons_succ, List.getD_cons_zero] at z0 z1
      go_wp2_with fail
      refine bodyPost_ret (v := .tuple #[.slice none 0 0, .agg #[.int .i64 3, .int .i64 (e : Int)]]) (by simp [results, Tryz.results10, go_sem, z0, z1]; try rfl) rfl ?_
      rw [HGA.out]
      exact ⟨resF_below HI1.out.bel (Nat.le_refl _), rfl⟩
    have HPN : Hid (¬ (betw false (x.data.toList.drop e) = 0 ∧ nbT ts = true ∧ hdP (x.data.toList.drop e) = true)) := Lib.hid (by rw [HBB.out]; exact hP)
    have hN900 : ts.length ≠ 900 := hN
    by_cases hb0 : b = 0
    · subst hb0
      have hab : e < x.size := by omega
      have HPT := Lib.hid (show hdP (x.data.toList.drop e) = ((isL ((x[e]'hab).toNat : Int) || isD ((x[e]'hab).toNat : Int)) || (((x[e]'hab).toNat : Int) == 46)) by
        rw [drop_cons x e hab, ← ptB_int, ← get_bang x e hab]; rfl)
      cases hnb : nbT ts
      · have HNB := Lib.hid hnb
        clear hnb HPT hP
        have KF : Hid (∀ W, LV W → Calls Tryz.prog 22 #[.string (x.extract e x.size)] W (FsP (fstL (x.data.toList.drop e)) W)) := Lib.hid (fun W hW => by
          have := first_any (x.extract e x.size) (by rw [ByteArray.size_extract]; omega) W hW
          rw [ext_drop] at this
          exact this)
        have HLV1 : Hid (∀ W, Below w.heap.size w W → LV W) := Lib.hid (fun W hW => HLV.out.go hW)
        cases hx : fstL (x.data.toList.drop e)
        case no j =>
          rw [hx] at KF
          have hj : e + j ≤ x.size := by
            have := fst_in (x.data.toList.drop e)
            rw [hx] at this
            have h2 : j ≤ (x.data.toList.drop e).length := this
            rw [List.length_drop, ← Lib.size_eq] at h2
            omega
          have HGA : Hid (G = .inr (3, e + j)) := Lib.hid (by
            rw [← HI.out.hG, lexF_no HLT.out hN900 HPN.out (j := j) (by rw [List.drop_drop, HBB.out]; exact hx), HBB.out]; rfl)
          clear hx
          go_wp2_with fail
          refine (KT.out wr).mono ?_
          rintro e' w1 ⟨rfl, hb1⟩
          have HI1 := Lib.hid (HI.out.go hb1)
          clear hb1 KT
          go_wp2_with fail
          refine (nl_any (ts := ts) HI1.out.own (by omega)).mono ?_
          rintro e' w2 ⟨rfl, rfl⟩
          rw [HNB.out]
          go_wp2_with fail
          refine (KF.out w1 (HLV1.out w1 HI1.out.bel)).mono ?_
          rintro e' w3 ⟨⟨k, t, rfl⟩, hb3⟩
          have HI3 := Lib.hid (HI1.out.go hb3)
          have HS13 := Lib.hid (hb3.size)
          clear hb3 KF
          have z0 : ∀ o, (w3.alloc o).cell? ⟨w.heap.size, 0, none⟩ = some (.int .i64 0) := fun o => (World.cell?_alloc_past _ _ _ HI3.out.flt.lt).trans (HI3.out.flt.row.cell (show 0 < 2 by decide))
          have z1 : ∀ o, (w3.alloc o).cell? ⟨w.heap.size, 1, none⟩ = some (.int .i64 0) := fun o => (World.cell?_alloc_past _ _ _ HI3.out.flt.lt).trans (HI3.out.flt.row.cell (show 1 < 2 by decide))
          have g0 : ∀ o, (w3.alloc o).frozen? ⟨w.heap.size, 0, none⟩ = false := fun o => Lib.frozen_of_heap ((Below.heap_alloc _ _ _ HI3.out.flt.lt).trans HI3.out.flt) 0
          have g1 : ∀ o, (w3.alloc o).frozen? ⟨w.heap.size, 1, none⟩ = false := fun o => Lib.frozen_of_heap ((Below.heap_alloc _ _ _ HI3.out.flt.lt).trans HI3.out.flt) 1
          go_wp2_with fail
          refine bodyPost_ret (v := .tuple #[.slice none 0 0, .agg #[.int .i64 3, .int .i64 ((e : Int) + (j : Int))]]) (by simp [results, Tryz.results10, go_sem, z0, z1]; try rfl) rfl ?_
          rw [HGA.out]
          exact ⟨resF_below ((HI3.out.bel.alloc (Nat.le_trans HI1.out.bel.size (by first | exact Nat.le_refl _ | exact HS13.out)) _)) (Nat.le_refl _), show _ = Ending.returned (.tuple #[.slice none 0 0, .agg #[.int .i64 3, .int .i64 ((e + j : Nat) : Int)]]) from by simp⟩
        case ok k s m =>
          rw [hx] at KF
          have hst := fst_step (l := x.data.toList.drop e) (k := k) (x := s) (m := m) HLT.out (by rw [List.drop_drop, HBB.out]; exact hx)
          rw [HBB.out, HLL.out] at hst
          obtain ⟨hm1, hm2⟩ := hst
          have HGA : Hid (G = consT ts (consT [⟨k, s, e⟩] (lexF f' (x.data.toList.drop (e + m)) (e + m) (ts.length + 1) (k == 3)))) := Lib.hid (by
            rw [← HI.out.hG, lexF_ok HLT.out hN900 HPN.out (by rw [List.drop_drop, HBB.out]; exact hx), HBB.out, List.drop_drop, ← Nat.add_assoc]; try rfl)
          clear hx
          go_wp2_with fail
          refine (KT.out wr).mono ?_
          rintro e' w1 ⟨rfl, hb1⟩
          have HI1 := Lib.hid (HI.out.go hb1)
          clear hb1 KT
          go_wp2_with fail
          refine (nl_any (ts := ts) HI1.out.own (by omega)).mono ?_
          rintro e' w2 ⟨rfl, rfl⟩
          rw [HNB.out]
          go_wp2_with fail
          refine (KF.out w1 (HLV1.out w1 HI1.out.bel)).mono ?_
          rintro e' w3 ⟨hF, hb3⟩
          have hF := (show e' = .returned (.tuple #[.agg #[.int .i64 (k : Nat), .string ⟨s.toArray⟩, .int .i64 0], .int .i64 (m : Nat), .bool true]) from hF)
          subst hF
          have HI3 := Lib.hid (HI1.out.go hb3)
          clear hb3 KF
          go_wp2_with (at_builtin; refine wpList_append_own _ rfl _ _ 23 rfl (w.heap.size + 1) 41 i0 _ 3 32 Tryz.underlying23 hi hz0 hz1 hz2 rfl (by decide) (.slice ao ts.length cap) ts.length (tkCs ts) rfl ((HI3.out.own.alloc _).alloc _) ⟨w3.heap.size + 1, 0, none⟩ 1 1 [.int .i64 (k : Nat), .string ⟨s.toArray⟩, .int .i64 (e : Int)] rfl rfl (World.news_of_block (alloc2_new w3 _ _)) (by simp [Value.oneCell']) (by unfold maxLen; omega) (by omega) (by have := HI3.out.bel.size; simp; omega) ?_; intro v6 w6 hown6 hgrow6 _; have HO6 := Lib.hid hown6; have HG6 := Lib.hid hgrow6; clear hown6 hgrow6)
          exact ⟨⟨_, e + m, f', by go_num, HI3.out.put HG6.out (by exact HO6.out) (by omega) hm1 (by omega) (by have := HI.out.hf; omega) HGA.out⟩, by simp [intOf]; omega⟩
      · have hpf : hdP (x.data.toList.drop e) = false := by
          cases hq : hdP (x.data.toList.drop e)
          · rfl
          · exact absurd ⟨rfl, hnb, hq⟩ hP
        rw [HPT.out] at hpf
        have HNB := Lib.hid hnb
        have HPF := Lib.hid hpf
        clear hnb HPT hP hpf
        have KF : Hid (∀ W, LV W → Calls Tryz.prog 22 #[.string (x.extract e x.size)] W (FsP (fstL (x.data.toList.drop e)) W)) := Lib.hid (fun W hW => by
          have := first_any (x.extract e x.size) (by rw [ByteArray.size_extract]; omega) W hW
          rw [ext_drop] at this
          exact this)
        have HLV1 : Hid (∀ W, Below w.heap.size w W → LV W) := Lib.hid (fun W hW => HLV.out.go hW)
        cases hx : fstL (x.data.toList.drop e)
        case no j =>
          rw [hx] at KF
          have hj : e + j ≤ x.size := by
            have := fst_in (x.data.toList.drop e)
            rw [hx] at this
            have h2 : j ≤ (x.data.toList.drop e).length := this
            rw [List.length_drop, ← Lib.size_eq] at h2
            omega
          have HGA : Hid (G = .inr (3, e + j)) := Lib.hid (by
            rw [← HI.out.hG, lexF_no HLT.out hN900 HPN.out (j := j) (by rw [List.drop_drop, HBB.out]; exact hx), HBB.out]; rfl)
          clear hx
          go_wp2_with fail
          refine (KT.out wr).mono ?_
          rintro e' w1 ⟨rfl, hb1⟩
          have HI1 := Lib.hid (HI.out.go hb1)
          clear hb1 KT
          go_wp2_with fail
          refine (nl_any (ts := ts) HI1.out.own (by omega)).mono ?_
          rintro e' w2 ⟨rfl, rfl⟩
          rw [HNB.out]
          go_wp2_with fail
          refine (partsNumber_any _ w1).mono ?_
          rintro e' w2 ⟨rfl, rfl⟩
          rw [HPF.out]
          go_wp2_with fail
          refine (KF.out w1 (HLV1.out w1 HI1.out.bel)).mono ?_
          rintro e' w3 ⟨⟨k, t, rfl⟩, hb3⟩
          have HI3 := Lib.hid (HI1.out.go hb3)
          have HS13 := Lib.hid (hb3.size)
          clear hb3 KF
          have z0 : ∀ o, (w3.alloc o).cell? ⟨w.heap.size, 0, none⟩ = some (.int .i64 0) := fun o => (World.cell?_alloc_past _ _ _ HI3.out.flt.lt).trans (HI3.out.flt.row.cell (show 0 < 2 by decide))
          have z1 : ∀ o, (w3.alloc o).cell? ⟨w.heap.size, 1, none⟩ = some (.int .i64 0) := fun o => (World.cell?_alloc_past _ _ _ HI3.out.flt.lt).trans (HI3.out.flt.row.cell (show 1 < 2 by decide))
          have g0 : ∀ o, (w3.alloc o).frozen? ⟨w.heap.size, 0, none⟩ = false := fun o => Lib.frozen_of_heap ((Below.heap_alloc _ _ _ HI3.out.flt.lt).trans HI3.out.flt) 0
          have g1 : ∀ o, (w3.alloc o).frozen? ⟨w.heap.size, 1, none⟩ = false := fun o => Lib.frozen_of_heap ((Below.heap_alloc _ _ _ HI3.out.flt.lt).trans HI3.out.flt) 1
          go_wp2_with fail
          refine bodyPost_ret (v := .tuple #[.slice none 0 0, .agg #[.int .i64 3, .int .i64 ((e : Int) + (j : Int))]]) (by simp [results, Tryz.results10, go_sem, z0, z1]; try rfl) rfl ?_
          rw [HGA.out]
          exact ⟨resF_below ((HI3.out.bel.alloc (Nat.le_trans HI1.out.bel.size (by first | exact Nat.le_refl _ | exact HS13.out)) _)) (Nat.le_refl _), show _ = Ending.returned (.tuple #[.slice none 0 0, .agg #[.int .i64 3, .int .i64 ((e + j : Nat) : Int)]]) from by simp⟩
        case ok k s m =>
          rw [hx] at KF
          have hst := fst_step (l := x.data.toList.drop e) (k := k) (x := s) (m := m) HLT.out (by rw [List.drop_drop, HBB.out]; exact hx)
          rw [HBB.out, HLL.out] at hst
          obtain ⟨hm1, hm2⟩ := hst
          have HGA : Hid (G = consT ts (consT [⟨k, s, e⟩] (lexF f' (x.data.toList.drop (e + m)) (e + m) (ts.length + 1) (k == 3)))) := Lib.hid (by
            rw [← HI.out.hG, lexF_ok HLT.out hN900 HPN.out (by rw [List.drop_drop, HBB.out]; exact hx), HBB.out, List.drop_drop, ← Nat.add_assoc]; try rfl)
          clear hx
          go_wp2_with fail
          refine (KT.out wr).mono ?_
          rintro e' w1 ⟨rfl, hb1⟩
          have HI1 := Lib.hid (HI.out.go hb1)
          clear hb1 KT
          go_wp2_with fail
          refine (nl_any (ts := ts) HI1.out.own (by omega)).mono ?_
          rintro e' w2 ⟨rfl, rfl⟩
          rw [HNB.out]
          go_wp2_with fail
          refine (partsNumber_any _ w1).mono ?_
          rintro e' w2 ⟨rfl, rfl⟩
          rw [HPF.out]
          go_wp2_with fail
          refine (KF.out w1 (HLV1.out w1 HI1.out.bel)).mono ?_
          rintro e' w3 ⟨hF, hb3⟩
          have hF := (show e' = .returned (.tuple #[.agg #[.int .i64 (k : Nat), .string ⟨s.toArray⟩, .int .i64 0], .int .i64 (m : Nat), .bool true]) from hF)
          subst hF
          have HI3 := Lib.hid (HI1.out.go hb3)
          clear hb3 KF
          go_wp2_with (at_builtin; refine wpList_append_own _ rfl _ _ 23 rfl (w.heap.size + 1) 41 i0 _ 3 32 Tryz.underlying23 hi hz0 hz1 hz2 rfl (by decide) (.slice ao ts.length cap) ts.length (tkCs ts) rfl ((HI3.out.own.alloc _).alloc _) ⟨w3.heap.size + 1, 0, none⟩ 1 1 [.int .i64 (k : Nat), .string ⟨s.toArray⟩, .int .i64 (e : Int)] rfl rfl (World.news_of_block (alloc2_new w3 _ _)) (by simp [Value.oneCell']) (by unfold maxLen; omega) (by omega) (by have := HI3.out.bel.size; simp; omega) ?_; intro v6 w6 hown6 hgrow6 _; have HO6 := Lib.hid hown6; have HG6 := Lib.hid hgrow6; clear hown6 hgrow6)
          exact ⟨⟨_, e + m, f', by go_num, HI3.out.put HG6.out (by exact HO6.out) (by omega) hm1 (by omega) (by have := HI.out.hf; omega) HGA.out⟩, by simp [intOf]; omega⟩
    · have heb : (((e : Int) + (b : Int)) == (e : Int)) = false := by simp; omega
      clear hP
      have KF : Hid (∀ W, LV W → Calls Tryz.prog 22 #[.string (x.extract (e + b) x.size)] W (FsP (fstL (x.data.toList.drop (e + b))) W)) := Lib.hid (fun W hW => by
        have := first_any (x.extract (e + b) x.size) (by rw [ByteArray.size_extract]; omega) W hW
        rw [ext_drop] at this
        exact this)
      have HLV1 : Hid (∀ W, Below w.heap.size w W → LV W) := Lib.hid (fun W hW => HLV.out.go hW)
      cases hx : fstL (x.data.toList.drop (e + b))
      case no j =>
        rw [hx] at KF
        have hj : (e + b) + j ≤ x.size := by
          have := fst_in (x.data.toList.drop (e + b))
          rw [hx] at this
          have h2 : j ≤ (x.data.toList.drop (e + b)).length := this
          rw [List.length_drop, ← Lib.size_eq] at h2
          omega
        have HGA : Hid (G = .inr (3, (e + b) + j)) := Lib.hid (by
          rw [← HI.out.hG, lexF_no HLT.out hN900 HPN.out (j := j) (by rw [List.drop_drop, HBB.out]; exact hx), HBB.out]; rfl)
        clear hx
        go_wp2_with fail
        refine (KT.out wr).mono ?_
        rintro e' w1 ⟨rfl, hb1⟩
        have HI1 := Lib.hid (HI.out.go hb1)
        clear hb1 KT
        go_wp2_with fail
        refine (KF.out w1 (HLV1.out w1 HI1.out.bel)).mono ?_
        rintro e' w3 ⟨⟨k, t, rfl⟩, hb3⟩
        have HI3 := Lib.hid (HI1.out.go hb3)
        have HS13 := Lib.hid (hb3.size)
        clear hb3 KF
        have z0 : ∀ o, (w3.alloc o).cell? ⟨w.heap.size, 0, none⟩ = some (.int .i64 0) := fun o => (World.cell?_alloc_past _ _ _ HI3.out.flt.lt).trans (HI3.out.flt.row.cell (show 0 < 2 by decide))
        have z1 : ∀ o, (w3.alloc o).cell? ⟨w.heap.size, 1, none⟩ = some (.int .i64 0) := fun o => (World.cell?_alloc_past _ _ _ HI3.out.flt.lt).trans (HI3.out.flt.row.cell (show 1 < 2 by decide))
        have g0 : ∀ o, (w3.alloc o).frozen? ⟨w.heap.size, 0, none⟩ = false := fun o => Lib.frozen_of_heap ((Below.heap_alloc _ _ _ HI3.out.flt.lt).trans HI3.out.flt) 0
        have g1 : ∀ o, (w3.alloc o).frozen? ⟨w.heap.size, 1, none⟩ = false := fun o => Lib.frozen_of_heap ((Below.heap_alloc _ _ _ HI3.out.flt.lt).trans HI3.out.flt) 1
        go_wp2_with fail
        refine bodyPost_ret (v := .tuple #[.slice none 0 0, .agg #[.int .i64 3, .int .i64 (((e : Int) + (b : Int)) + (j : Int))]]) (by simp [results, Tryz.results10, go_sem, z0, z1]; try rfl) rfl ?_
        rw [HGA.out]
        exact ⟨resF_below ((HI3.out.bel.alloc (Nat.le_trans HI1.out.bel.size (by first | exact Nat.le_refl _ | exact HS13.out)) _)) (Nat.le_refl _), show _ = Ending.returned (.tuple #[.slice none 0 0, .agg #[.int .i64 3, .int .i64 (((e + b) + j : Nat) : Int)]]) from by simp⟩
      case ok k s m =>
        rw [hx] at KF
        have hst := fst_step (l := x.data.toList.drop e) (k := k) (x := s) (m := m) HLT.out (by rw [List.drop_drop, HBB.out]; exact hx)
        rw [HBB.out, HLL.out] at hst
        obtain ⟨hm1, hm2⟩ := hst
        have HGA : Hid (G = consT ts (consT [⟨k, s, (e + b)⟩] (lexF f' (x.data.toList.drop ((e + b) + m)) ((e + b) + m) (ts.length + 1) (k == 3)))) := Lib.hid (by
          rw [← HI.out.hG, lexF_ok HLT.out hN900 HPN.out (by rw [List.drop_drop, HBB.out]; exact hx), HBB.out, List.drop_drop, ← Nat.add_assoc]; try rfl)
        clear hx
        go_wp2_with fail
        refine (KT.out wr).mono ?_
        rintro e' w1 ⟨rfl, hb1⟩
        have HI1 := Lib.hid (HI.out.go hb1)
        clear hb1 KT
        go_wp2_with fail
        refine (KF.out w1 (HLV1.out w1 HI1.out.bel)).mono ?_
        rintro e' w3 ⟨hF, hb3⟩
        have hF := (show e' = .returned (.tuple #[.agg #[.int .i64 (k : Nat), .string ⟨s.toArray⟩, .int .i64 0], .int .i64 (m : Nat), .bool true]) from hF)
        subst hF
        have HI3 := Lib.hid (HI1.out.go hb3)
        clear hb3 KF
        go_wp2_with (at_builtin; refine wpList_append_own _ rfl _ _ 23 rfl (w.heap.size + 1) 41 i0 _ 3 32 Tryz.underlying23 hi hz0 hz1 hz2 rfl (by decide) (.slice ao ts.length cap) ts.length (tkCs ts) rfl ((HI3.out.own.alloc _).alloc _) ⟨w3.heap.size + 1, 0, none⟩ 1 1 [.int .i64 (k : Nat), .string ⟨s.toArray⟩, .int .i64 ((e : Int) + (b : Int))] rfl rfl (World.news_of_block (alloc2_new w3 _ _)) (by simp [Value.oneCell']) (by unfold maxLen; omega) (by omega) (by have := HI3.out.bel.size; simp; omega) ?_; intro v6 w6 hown6 hgrow6 _; have HO6 := Lib.hid hown6; have HG6 := Lib.hid hgrow6; clear hown6 hgrow6)
        exact ⟨⟨_, (e + b) + m, f', by go_num, HI3.out.put HG6.out (by rw [Int.natCast_add]; exact HO6.out) (by omega) hm1 (by omega) (by have := HI.out.hf; omega) HGA.out⟩, by simp [intOf]; omega⟩
theorem lex_any (x : ByteArray) (hs : x.size ≤ 1000000) (w : World) (h : LV w) : Calls Tryz.prog 10 #[.string x] w (LxP (lexB x) w) := by
  unfold lexB
  by_cases h4 : 4000 < x.size
  · rw [if_pos h4]; exact lex_long x h4 w
  rw [if_neg h4]
  by_cases hb : 0 ≤ badI x
  · rw [if_pos hb]
    exact lex_bad x (by omega) (badI x).toNat (by omega) w
  · rw [if_neg hb]
    exact lex_go x (by omega) (by omega) w h
end Go.Proofs.YtejniiehfangkaaGreatDoor
