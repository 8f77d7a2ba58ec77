/- Raw texts among tokens: rawEnd and raw, walked. -/
import Derived.Test.YtejniiehfangkaaGreatDoorKNb
import Derived.Test.YtejniiehfangkaaGreatDoorKAs
import Derived.Test.YtejniiehfangkaaGreatDoorKRawP
import Derived.Test.YtejniiehfangkaaGreatDoorBEdg
import Derived.Lib.IndexMore
set_option linter.unusedVariables false
set_option linter.unusedSimpArgs false
namespace Go.Proofs.YtejniiehfangkaaGreatDoor
open Go.RowKit
/-- Where the row is that ends a raw text, from a place on. -/
def rE (x : ByteArray) (a : Nat) : Option Nat := (rawE 0 (x.get! (a - 1)) (x.data.toList.drop a)).map (· + a)
theorem prevAt_get (x : ByteArray) (a i : Nat) (ha : 1 ≤ a) (h : a + i ≤ x.size) : prevAt (x.get! (a - 1)) (x.data.toList.drop a) i = x.get! (a + i - 1) := by
  cases i with
  | zero => rfl
  | succ k =>
    simp only [prevAt]
    rw [List.getD_eq_getElem?_getD, List.getElem?_drop, List.getElem?_eq_getElem (by rw [← Lib.size_eq]; omega), Option.getD_some, get_bang_data x (a + k) (by omega)]
    congr 1
theorem rE_none {x : ByteArray} {a : Nat} (h : ∀ j, j ≤ (x.data.toList.drop a).length → Lib.occAt (x.data.toList.drop a) r3 j = false) : rE x a = none := by
  unfold rE
  rw [rawE_none _ h]; rfl
theorem rE_at {x : ByteArray} {a i : Nat} (ha : 1 ≤ a) (hi : i ≤ (x.data.toList.drop a).length) (ho : Lib.occAt (x.data.toList.drop a) r3 i = true) (hn : ∀ j, j < i → Lib.occAt (x.data.toList.drop a) r3 j = false) :
    a + i + 3 ≤ x.size ∧ ((x.get! (a + i - 1)).toNat ≠ 92 → rE x a = some (a + i)) ∧ ((x.get! (a + i - 1)).toNat = 92 → rE x a = rE x (a + i + 3)) := by
  have hr : rw3 ((x.data.toList.drop a).drop i) = true := ho
  have hl := rw3_len hr
  rw [List.drop_drop, List.length_drop, ← Lib.size_eq] at hl
  have key : rE x a = (if (x.get! (a + i - 1)).toNat = 92 then (rawE 0 34 ((x.data.toList.drop (a + i)).drop 3)).map (· + 3) else some 0).map (· + (a + i)) := by
    unfold rE
    rw [rawE_scan i _ _ hn hi, prevAt_get x a i ha (by omega), rawE_hit _ hr, Option.map_map]
    simp only [List.drop_drop, Nat.add_assoc]
    congr 1
    funext k
    simp only [Function.comp]
    omega
  refine ⟨by omega, fun h => ?_, fun h => ?_⟩
  · rw [key, if_neg h]; simp
  · rw [key, if_pos h]
    have h34 : x.get! (a + i + 3 - 1) = 34 := by
      rw [List.drop_drop] at hr
      unfold rw3 at hr
      rw [List.isPrefixOf_iff_prefix] at hr
      obtain ⟨t, ht⟩ := hr
      have d0 := drop_some x (a + i) _ _ ht.symm
      have d1 := drop_some x (a + i + 1) _ _ d0.2.2
      have d2 := drop_some x (a + i + 1 + 1) _ _ d1.2.2
      exact d2.2.1
    unfold rE
    rw [h34, List.drop_drop, Option.map_map]
    congr 1
    funext k
    simp only [Function.comp]
    omega
def reI (x : ByteArray) : Int := match rE x 3 with
  | none => -1
  | some j => (j : Nat)
set_option maxHeartbeats 1000000 in
set_option maxRecDepth 100000 in
theorem rawEnd_any (x : ByteArray) (h3 : 3 ≤ x.size) (hs : x.size ≤ 1000000) (w : World) (h : LV w) : Calls Tryz.prog 59 #[.string x] w fun e w' => e = .returned (.int .i64 (reI x)) ∧ w = w' := by
  have HLV := Lib.hid h
  clear h
  go_enter Tryz.func59, Tryz.ntmps59
  go_wp2_with fail
  go_loopw [3] (fun v wr => ∃ a : Nat, v = .int .i64 (a : Nat) ∧ 3 ≤ a ∧ a ≤ x.size ∧ w = wr ∧ rE x a = rE x 3) (fun v _ => x.size - (intOf v).toNat)
  case atStart => exact ⟨3, rfl, Nat.le_refl _, h3, rfl, rfl⟩
  case round =>
    obtain ⟨a, rfl, ha3, has, rfl, hr⟩ := hrel
    have HR := Lib.hid hr
    obtain ⟨m, hm⟩ := HLV.out.mx
    have hX : (x.extract a x.size).data.toList = x.data.toList.drop a := by rw [Lib.extract_data, List.take_of_length_le (by rw [List.length_drop, ← Lib.size_eq]; omega)]
    have KI := Tryz.strings_Index (x.extract a x.size) ⟨#[34, 34, 34]⟩ m w (by rw [ByteArray.size_extract]; omega) hm
    rw [hX] at KI
    have hsp := Lib.index_spec (x.data.toList.drop a) r3
    have KI : Hid (Calls Tryz.prog 75 #[.string (x.extract a x.size), .string ⟨#[34, 34, 34]⟩] w fun e w' => e = .returned (.int .i64 (Lib.index (x.data.toList.drop a) r3)) ∧ w = w') := Lib.hid (KI.mono (fun e w' q => ⟨q.1, q.2.symm⟩))
    clear hr hX hm
    rcases hsp with ⟨hi, hno⟩ | ⟨i, hi, hil, ho, hn⟩
    · have HG := Lib.hid (rE_none hno)
      rw [hi] at KI
      clear hi hno
      go_wp2_with fail
      refine KI.out.mono ?_
      rintro e w1 ⟨rfl, rfl⟩
      go_wp2_with fail
      go_ret
      refine ⟨?_, rfl⟩
      unfold reI
      rw [← HR.out, HG.out]
      rfl
    · obtain ⟨h1, h2, h4⟩ := rE_at (by omega) hil ho hn
      have H2 := Lib.hid h2
      have H4 := Lib.hid h4
      rw [hi] at KI
      clear hi hil ho hn h2 h4
      have hai : a + i - 1 < x.size := by omega
      have hgb := get_bang x (a + i - 1) hai
      have hidx : ((a : Int) + (i : Int) - 1) = ((a + i - 1 : Nat) : Int) := by omega
      by_cases h92 : (x.get! (a + i - 1)).toNat = 92
      · have HG := Lib.hid (H4.out h92)
        have e92 : (((x[a + i - 1]'hai).toNat : Int) != 92) = false := by rw [← hgb, h92]; rfl
        clear h92 hgb
        go_wp2_with fail
        refine KI.out.mono ?_
        rintro e w1 ⟨rfl, rfl⟩
        go_wp2_with fail
        exact ⟨⟨a + i + 3, by go_num, by omega, h1, by first | rfl | trivial, by rw [← HG.out]; exact HR.out⟩, by simp [intOf]; omega⟩
      · have HG := Lib.hid (H2.out h92)
        have e92 : (((x[a + i - 1]'hai).toNat : Int) != 92) = true := by rw [← hgb, bne_iff_ne]; omega
        clear h92 hgb
        go_wp2_with fail
        refine KI.out.mono ?_
        rintro e w1 ⟨rfl, rfl⟩
        go_wp2_with fail
        go_ret
        refine ⟨?_, rfl⟩
        unfold reI
        rw [← HR.out, HG.out]
        rfl
theorem unfit_any (r : Int) (w : World) : Calls Tryz.prog 61 #[.int .i32 r] w fun e w' => e = .returned (.bool (decide (r < 32) && ((r != 9) && ((r != 10) && (r != 13))))) ∧ w = w' := by
  by_cases h1 : r < 32
  · cases h2 : r != 9
    · go_enter Tryz.func61, Tryz.ntmps61
      go_wp2_with fail
      go_ret
      exact ⟨ret_bool (by simp), rfl⟩
    · cases h3 : r != 10
      · go_enter Tryz.func61, Tryz.ntmps61
        go_wp2_with fail
        go_ret
        exact ⟨ret_bool (by simp), rfl⟩
      · cases h4 : r != 13
        all_goals
          go_enter Tryz.func61, Tryz.ntmps61
          go_wp2_with fail
          go_ret
          exact ⟨ret_bool (by simp [h1]), rfl⟩
  · go_enter Tryz.func61, Tryz.ntmps61
    go_wp2_with fail
    go_ret
    exact ⟨ret_bool (by rw [decide_eq_false (by omega)]; rfl), rfl⟩
theorem contains_any (s : ByteArray) (b : Bool) (hb : s.data.toList.any ctB = b) (w : World) : Calls Tryz.prog 60 #[.string s, .func (.func 61) #[] #[]] w fun e w' => e = .returned (.bool b) ∧ Below w.heap.size w w' := by
  have eg : ∀ args w, (callFunc 61 args).run Tryz.prog w = .ok (.enter 61 args) w := enters_of Tryz.func61 (by kernel_rfl) rfl
  refine (Tryz.strings_ContainsFunc_runes 61 #[] eg ctR s w ?_).mono ?_
  · intro W x _ _
    refine (unfit_any (x : Int) W).mono ?_
    rintro e w' ⟨rfl, rfl⟩
    exact ⟨rfl, 0, rfl⟩
  · rintro e w' ⟨rfl, hb2⟩
    exact ⟨ret_bool (by rw [contains_ct, hb]), hb2⟩
theorem rw3_size {x : ByteArray} (h : rw3 x.data.toList = true) : 3 ≤ x.size := by
  have := rw3_len h
  rwa [← Lib.size_eq] at this
theorem rw3_is {x : ByteArray} (h : rw3 x.data.toList = true) : x.data.toList = 34 :: 34 :: 34 :: x.data.toList.drop 3 ∧ x.get! 2 = 34 := by
  unfold rw3 at h
  rw [List.isPrefixOf_iff_prefix] at h
  obtain ⟨t, ht⟩ := h
  have hd : x.data.toList.drop 0 = 34 :: 34 :: 34 :: t := by rw [List.drop_zero]; exact ht.symm
  have d0 := drop_some x 0 _ _ hd
  have d1 := drop_some x (0 + 1) _ _ d0.2.2
  have d2 := drop_some x (0 + 1 + 1) _ _ d1.2.2
  refine ⟨?_, d2.2.1⟩
  rw [← ht]
  rfl
theorem reI_is {x : ByteArray} (h : rw3 x.data.toList = true) : reI x = match rawE 0 34 (x.data.toList.drop 3) with
    | none => -1
    | some j => ((j + 3 : Nat) : Int) := by
  unfold reI rE
  rw [show 3 - 1 = 2 from rfl, (rw3_is h).2]
  cases rawE 0 34 (x.data.toList.drop 3) <;> rfl
set_option maxHeartbeats 1000000 in
set_option maxRecDepth 100000 in
theorem raw_none (x : ByteArray) (h3 : rw3 x.data.toList = true) (hs : x.size ≤ 1000000) (w : World) (h : LV w) (E : Int) (hE : reI x = E) (hneg : E < 0) : Calls Tryz.prog 39 #[.string x] w (FsP (.no 0) w) := by
  have HLV := Lib.hid h
  have HR := Lib.hid (row3 (heap_alloc_new w (zT)))
  have HB0 := Lib.hid ((Below.refl w.heap.size w).alloc (Nat.le_refl _) zT)
  have HS0 := Lib.hid (show (w.alloc zT).heap.size = w.heap.size + 1 by simp)
  have KE : Hid (∀ W, LV W → Calls Tryz.prog 59 #[.string x] W fun e w' => e = .returned (.int .i64 E) ∧ W = w') := Lib.hid (fun W hW => by rw [← hE]; exact rawEnd_any x (rw3_size h3) hs W hW)
  clear h h3 hE
  go_enter Tryz.func39, Tryz.ntmps39
  go_wp2_with fail
  generalize w.alloc zT = w0 at HR HB0 HS0 ⊢
  have HLV0 := Lib.hid (HLV.out.go HB0.out)
  refine (KE.out w0 HLV0.out).mono ?_
  rintro e w1 ⟨rfl, rfl⟩
  clear KE
  have z0 := HR.out.cell (show 0 < 3 by decide)
  have z1 := HR.out.cell (show 1 < 3 by decide)
  have z2 := HR.out.cell (show 2 < 3 by decide)
  have g0 := HR.out.frozen 0
  have g1 := HR.out.frozen 1
  have g2 := HR.out.frozen 2
  simp only [t3, List.getD_cons_succ, List.getD_cons_zero] at z0 z1 z2
  go_wp2_with fail
  refine bodyPost_ret (v := .tuple #[.agg #[.int .i64 0, .string ByteArray.empty, .int .i64 0], .int .i64 0, .bool false]) (by simp [results, Tryz.results39, go_sem, z0, z1, z2]; try rfl) rfl ?_
  exact ⟨⟨0, _, rfl⟩, resT_below HB0.out (Nat.le_refl _)⟩
set_option maxHeartbeats 1000000 in
set_option maxRecDepth 100000 in
theorem raw_bad (x : ByteArray) (h3 : rw3 x.data.toList = true) (hs : x.size ≤ 1000000) (w : World) (h : LV w) (E : Nat) (hE : reI x = (E : Nat)) (hEs : E ≤ x.size) (hc : (x.extract 0 E).data.toList.any ctB = true) : Calls Tryz.prog 39 #[.string x] w (FsP (.no 0) w) := by
  have KC := Lib.hid (contains_any (x.extract 0 E) true hc)
  clear hc
  have HLV := Lib.hid h
  have HR := Lib.hid (row3 (heap_alloc_new w (zT)))
  have HB0 := Lib.hid ((Below.refl w.heap.size w).alloc (Nat.le_refl _) zT)
  have HS0 := Lib.hid (show (w.alloc zT).heap.size = w.heap.size + 1 by simp)
  have KE : Hid (∀ W, LV W → Calls Tryz.prog 59 #[.string x] W fun e w' => e = .returned (.int .i64 (E : Nat)) ∧ W = w') := Lib.hid (fun W hW => by rw [← hE]; exact rawEnd_any x (rw3_size h3) hs W hW)
  clear h h3 hE
  go_enter Tryz.func39, Tryz.ntmps39
  go_wp2_with fail
  generalize w.alloc zT = w0 at HR HB0 HS0 ⊢
  have HLV0 := Lib.hid (HLV.out.go HB0.out)
  refine (KE.out w0 HLV0.out).mono ?_
  rintro e w1 ⟨rfl, rfl⟩
  clear KE
  go_wp2_with fail
  refine (KC.out w0).mono ?_
  rintro e w1 ⟨rfl, hb⟩
  have HR1 := Lib.hid (row_blk HR.out (hb.block _ (show w.heap.size < w0.heap.size by rw [HS0.out]; omega)))
  have HB1 := Lib.hid (HB0.out.trans (hb.mono (by rw [HS0.out]; omega)))
  clear hb
  have z0 := HR1.out.cell (show 0 < 3 by decide)
  have z1 := HR1.out.cell (show 1 < 3 by decide)
  have z2 := HR1.out.cell (show 2 < 3 by decide)
  have g0 := HR1.out.frozen 0
  have g1 := HR1.out.frozen 1
  have g2 := HR1.out.frozen 2
  simp only [t3, List.getD_cons_succ, List.getD_cons_zero] at z0 z1 z2
  go_wp2_with fail
  refine bodyPost_ret (v := .tuple #[.agg #[.int .i64 0, .string ByteArray.empty, .int .i64 0], .int .i64 0, .bool false]) (by simp [results, Tryz.results39, go_sem, z0, z1, z2]; try rfl) rfl ?_
  exact ⟨⟨0, _, rfl⟩, resT_below HB1.out (Nat.le_refl _)⟩
set_option maxHeartbeats 1000000 in
set_option maxRecDepth 100000 in
theorem raw_ok (x : ByteArray) (h3 : rw3 x.data.toList = true) (hs : x.size ≤ 1000000) (w : World) (h : LV w) (E : Nat) (hE : reI x = (E : Nat)) (hE3 : 3 ≤ E) (hEs : E ≤ x.size) (hc : (x.extract 0 E).data.toList.any ctB = false) (V : ByteArray) (hV : V = ⟨(Bk.valM (x.extract 3 E).data.toList).toArray⟩) : Calls Tryz.prog 39 #[.string x] w (FsP (.ok 4 V.data.toList (E + 3)) w) := by
  have KC := Lib.hid (contains_any (x.extract 0 E) false hc)
  have KV : Hid (∀ W, LV W → Calls Tryz.prog 62 #[.string (x.extract 3 E)] W fun e w' => e = .returned (.string V) ∧ Below W.heap.size W w') := Lib.hid (fun W hW => by rw [hV]; exact Bk.value_any (x.extract 3 E) (by rw [ByteArray.size_extract]; omega) W hW.mx)
  clear hc hV
  have HLV := Lib.hid h
  have HR := Lib.hid (row3 (heap_alloc_new w (zT)))
  have HB0 := Lib.hid ((Below.refl w.heap.size w).alloc (Nat.le_refl _) zT)
  have HS0 := Lib.hid (show (w.alloc zT).heap.size = w.heap.size + 1 by simp)
  have KE : Hid (∀ W, LV W → Calls Tryz.prog 59 #[.string x] W fun e w' => e = .returned (.int .i64 (E : Nat)) ∧ W = w') := Lib.hid (fun W hW => by rw [← hE]; exact rawEnd_any x (rw3_size h3) hs W hW)
  clear h h3 hE
  go_enter Tryz.func39, Tryz.ntmps39
  go_wp2_with fail
  generalize w.alloc zT = w0 at HR HB0 HS0 ⊢
  have HLV0 := Lib.hid (HLV.out.go HB0.out)
  refine (KE.out w0 HLV0.out).mono ?_
  rintro e w1 ⟨rfl, rfl⟩
  clear KE
  go_wp2_with fail
  refine (KC.out w0).mono ?_
  rintro e w1 ⟨rfl, hb⟩
  have HR1 := Lib.hid (row_blk HR.out (hb.block _ (show w.heap.size < w0.heap.size by rw [HS0.out]; omega)))
  have HB1 := Lib.hid (HB0.out.trans (hb.mono (by rw [HS0.out]; omega)))
  have HLV1 := Lib.hid (HLV0.out.go hb)
  have HS1 := Lib.hid (show w.heap.size < w1.heap.size by have := hb.size; have := HS0.out; omega)
  clear hb KC
  go_wp2_with fail
  refine (KV.out w1 HLV1.out).mono ?_
  rintro e w2 ⟨rfl, hb⟩
  have HR2 := Lib.hid (row_blk HR1.out (hb.block _ HS1.out))
  have HB2 := Lib.hid (HB1.out.trans (hb.mono (Nat.le_of_lt HS1.out)))
  clear hb KV
  have z0 := HR2.out.cell (show 0 < 3 by decide)
  have z1 := HR2.out.cell (show 1 < 3 by decide)
  have z2 := HR2.out.cell (show 2 < 3 by decide)
  have g0 := HR2.out.frozen 0
  have g1 := HR2.out.frozen 1
  have g2 := HR2.out.frozen 2
  simp only [t3, List.getD_cons_succ, List.getD_cons_zero] at z0 z1 z2
  go_wp2_with fail
  refine bodyPost_ret (v := .tuple #[.agg #[.int .i64 4, .string V, .int .i64 0], .int .i64 ((E : Int) + 3), .bool true]) (by simp [results, Tryz.results39, go_sem, z0, z1, z2]; try rfl) rfl ?_
  exact ⟨rfl, resT_below HB2.out (Nat.le_refl _)⟩
theorem raw_any (x : ByteArray) (h3 : rw3 x.data.toList = true) (hs : x.size ≤ 1000000) (w : World) (h : LV w) : Calls Tryz.prog 39 #[.string x] w (FsP (rawL x.data.toList) w) := by
  obtain ⟨hx, -⟩ := rw3_is h3
  unfold rawL
  cases hr : rawE 0 34 (x.data.toList.drop 3) with
  | none =>
    have hI : reI x = -1 := by rw [reI_is h3, hr]
    exact raw_none x h3 hs w h _ hI (by omega)
  | some j =>
    have hI : reI x = ((j + 3 : Nat) : Int) := by rw [reI_is h3, hr]
    have hj := (rawE_in _ _ _ _ hr).1
    rw [List.length_drop, ← Lib.size_eq] at hj
    have h3s := rw3_size h3
    have e1 : (x.extract 0 (j + 3)).data.toList = 34 :: 34 :: 34 :: (x.data.toList.drop 3).take j := by
      rw [Lib.extract_data, List.drop_zero, Nat.sub_zero]
      conv => lhs; rw [hx]
      rfl
    have e2 : (x.extract 3 (j + 3)).data.toList = (x.data.toList.drop 3).take j := by rw [Lib.extract_data, Nat.add_sub_cancel]
    have e3 : (x.extract 0 (j + 3)).data.toList.any ctB = ((x.data.toList.drop 3).take j).any ctB := by
      rw [e1]; simp only [List.any_cons]; rfl
    simp only
    cases hc : ((x.data.toList.drop 3).take j).any ctB
    · have := raw_ok x h3 hs w h (j + 3) hI (by omega) (by omega) (by rw [e3, hc]) _ rfl
      rw [e2] at this
      simpa using this
    · exact raw_bad x h3 hs w h (j + 3) hI (by omega) (by rw [e3, hc])
end Go.Proofs.YtejniiehfangkaaGreatDoor
