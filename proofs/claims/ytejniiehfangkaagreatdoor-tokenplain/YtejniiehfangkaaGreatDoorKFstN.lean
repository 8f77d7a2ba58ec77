/- What stands first: token.first, walked: points, names. -/
import Derived.Test.YtejniiehfangkaaGreatDoorKFstA
set_option linter.unusedVariables false
set_option linter.unusedSimpArgs false
namespace Go.Proofs.YtejniiehfangkaaGreatDoor
open Go.RowKit
set_option maxHeartbeats 2000000 in
set_option maxRecDepth 100000 in
theorem fst_p (x : ByteArray) (hs : x.size ≤ 1000000) (w : World) (h : LV w) (h0 : 0 < x.size) (hc : (x.get! 0).toNat = 46) (b0 : Bool) (hb0 : Lib.hasPrefix x.data.toList [46, 46, 46] = b0) (F : Fst) (hF0 : F = asF 1 ⟨#[46, 46, 46]⟩ b0) : Calls Tryz.prog 22 #[.string x] w (FsP F w) := by
  have HLV := Lib.hid h
  have HR := Lib.hid (row3 (heap_alloc_new w (zT)))
  have HB0 := Lib.hid ((Below.refl w.heap.size w).alloc (Nat.le_refl _) zT)
  have HS0 := Lib.hid (show (w.alloc zT).heap.size = w.heap.size + 1 by simp)
  have h63 : decide ((x.size : Int) < 1) = false := decide_eq_false (by omega)
  have hne : x.toList.isEmpty = false := by
    rw [Lib.toList_data]
    cases hq : x.data.toList with
    | nil => rw [Lib.size_eq, hq] at h0; simp at h0
    | cons _ _ => rfl
  have hxx : (x.toList == ([] : List UInt8)) = false := by
    rw [Lib.toList_data]
    cases hq : x.data.toList with
    | nil => rw [Lib.size_eq, hq] at h0; simp at h0
    | cons _ _ => rfl
  have hg := get_bang x 0 h0
  have e33 : (((x[0]'h0).toNat : Int) == 33) = false := by rw [← hg, hc]; rfl
  have e36 : (((x[0]'h0).toNat : Int) == 36) = false := by rw [← hg, hc]; rfl
  have e38 : (((x[0]'h0).toNat : Int) == 38) = false := by rw [← hg, hc]; rfl
  have e40 : (((x[0]'h0).toNat : Int) == 40) = false := by rw [← hg, hc]; rfl
  have e41 : (((x[0]'h0).toNat : Int) == 41) = false := by rw [← hg, hc]; rfl
  have e58 : (((x[0]'h0).toNat : Int) == 58) = false := by rw [← hg, hc]; rfl
  have e61 : (((x[0]'h0).toNat : Int) == 61) = false := by rw [← hg, hc]; rfl
  have e64 : (((x[0]'h0).toNat : Int) == 64) = false := by rw [← hg, hc]; rfl
  have e91 : (((x[0]'h0).toNat : Int) == 91) = false := by rw [← hg, hc]; rfl
  have e93 : (((x[0]'h0).toNat : Int) == 93) = false := by rw [← hg, hc]; rfl
  have e123 : (((x[0]'h0).toNat : Int) == 123) = false := by rw [← hg, hc]; rfl
  have e124 : (((x[0]'h0).toNat : Int) == 124) = false := by rw [← hg, hc]; rfl
  have e125 : (((x[0]'h0).toNat : Int) == 125) = false := by rw [← hg, hc]; rfl
  have e46 : (((x[0]'h0).toNat : Int) == 46) = true := by rw [← hg, hc]; rfl
  have KP : Hid (∀ W, Calls Tryz.prog 37 #[.string x, .string ⟨#[46, 46, 46]⟩] W fun e w' => e = .returned (.bool b0) ∧ W = w') := Lib.hid (fun W => (prefix_any x ⟨#[46, 46, 46]⟩ W).mono (by rintro e w' ⟨rfl, rfl⟩; exact ⟨ret_bool hb0, rfl⟩))
  have KF : Hid (∀ W, LV W → Calls Tryz.prog 36 #[.int .i64 1, .string ⟨#[46, 46, 46]⟩, .bool b0] W (FsP F W)) := Lib.hid (fun W _ => by rw [hF0]; exact as_any 1 ⟨#[46, 46, 46]⟩ b0 (by decide) W)
  clear hb0 hF0
  clear h hg hc
  go_enter Tryz.func22, Tryz.ntmps22
  go_wp2_with fail
  generalize w.alloc zT = w0 at HR HB0 HS0 ⊢
  have HLV0 := Lib.hid (HLV.out.go HB0.out)
  have HS0L := Lib.hid (show w.heap.size < w0.heap.size by rw [HS0.out]; omega)
  refine (KP.out w0).mono ?_
  rintro e w1 ⟨rfl, rfl⟩
  clear KP
  go_wp2_with fail
  refine (KF.out w0 HLV0.out).mono ?_
  rintro e wF ⟨hF, hb⟩
  obtain ⟨k, t, n, b, rfl⟩ := fsR_shape hF
  have HF := Lib.hid hF
  have HRF := Lib.hid (row_blk HR.out (hb.block _ HS0L.out))
  have HBF := Lib.hid (HB0.out.trans (hb.mono (Nat.le_of_lt HS0L.out)))
  clear hF hb KF
  have z0 := HRF.out.cell (show 0 < 3 by decide)
  have z1 := HRF.out.cell (show 1 < 3 by decide)
  have z2 := HRF.out.cell (show 2 < 3 by decide)
  have g0 := HRF.out.frozen 0
  have g1 := HRF.out.frozen 1
  have g2 := HRF.out.frozen 2
  simp only [t3, List.getD_cons_succ, List.getD_cons_zero] at z0 z1 z2
  go_wp2_with fail
  refine bodyPost_ret (v := .tuple #[.agg #[.int .i64 k, .string t, .int .i64 0], .int .i64 n, .bool b]) (by simp [results, Tryz.results22, go_sem, z0, z1, z2]; try rfl) rfl ?_
  exact ⟨HF.out, resT_below HBF.out (Nat.le_refl _)⟩
set_option maxHeartbeats 2000000 in
set_option maxRecDepth 100000 in
theorem fst_n (x : ByteArray) (hs : x.size ≤ 1000000) (w : World) (h : LV w) (h0 : 0 < x.size) (hno : ∀ v : Int, v ∈ ([33, 36, 38, 40, 41, 58, 61, 64, 91, 93, 123, 124, 125, 46, 45, 48, 49, 50, 51, 52, 53, 54, 55, 56, 57, 34] : List Int) → (((x[0]'h0).toNat : Int) == v) = false) (A : ByteArray) (hA : A = x.extract 0 (tk nmB x.data.toList)) (hAs : A.size ≤ 1000000) (b0 : Bool) (hb0 : A.toList.isEmpty = !b0) (F : Fst) (hF0 : F = asF 2 A b0) : Calls Tryz.prog 22 #[.string x] w (FsP F w) := by
  have HLV := Lib.hid h
  have HR := Lib.hid (row3 (heap_alloc_new w (zT)))
  have HB0 := Lib.hid ((Below.refl w.heap.size w).alloc (Nat.le_refl _) zT)
  have HS0 := Lib.hid (show (w.alloc zT).heap.size = w.heap.size + 1 by simp)
  have h63 : decide ((x.size : Int) < 1) = false := decide_eq_false (by omega)
  have hne : x.toList.isEmpty = false := by
    rw [Lib.toList_data]
    cases hq : x.data.toList with
    | nil => rw [Lib.size_eq, hq] at h0; simp at h0
    | cons _ _ => rfl
  have hxx : (x.toList == ([] : List UInt8)) = false := by
    rw [Lib.toList_data]
    cases hq : x.data.toList with
    | nil => rw [Lib.size_eq, hq] at h0; simp at h0
    | cons _ _ => rfl
  have hg := get_bang x 0 h0
  have e33 : (((x[0]'h0).toNat : Int) == 33) = false := hno 33 (by decide)
  have e36 : (((x[0]'h0).toNat : Int) == 36) = false := hno 36 (by decide)
  have e38 : (((x[0]'h0).toNat : Int) == 38) = false := hno 38 (by decide)
  have e40 : (((x[0]'h0).toNat : Int) == 40) = false := hno 40 (by decide)
  have e41 : (((x[0]'h0).toNat : Int) == 41) = false := hno 41 (by decide)
  have e58 : (((x[0]'h0).toNat : Int) == 58) = false := hno 58 (by decide)
  have e61 : (((x[0]'h0).toNat : Int) == 61) = false := hno 61 (by decide)
  have e64 : (((x[0]'h0).toNat : Int) == 64) = false := hno 64 (by decide)
  have e91 : (((x[0]'h0).toNat : Int) == 91) = false := hno 91 (by decide)
  have e93 : (((x[0]'h0).toNat : Int) == 93) = false := hno 93 (by decide)
  have e123 : (((x[0]'h0).toNat : Int) == 123) = false := hno 123 (by decide)
  have e124 : (((x[0]'h0).toNat : Int) == 124) = false := hno 124 (by decide)
  have e125 : (((x[0]'h0).toNat : Int) == 125) = false := hno 125 (by decide)
  have e46 : (((x[0]'h0).toNat : Int) == 46) = false := hno 46 (by decide)
  have e45 : (((x[0]'h0).toNat : Int) == 45) = false := hno 45 (by decide)
  have e48 : (((x[0]'h0).toNat : Int) == 48) = false := hno 48 (by decide)
  have e49 : (((x[0]'h0).toNat : Int) == 49) = false := hno 49 (by decide)
  have e50 : (((x[0]'h0).toNat : Int) == 50) = false := hno 50 (by decide)
  have e51 : (((x[0]'h0).toNat : Int) == 51) = false := hno 51 (by decide)
  have e52 : (((x[0]'h0).toNat : Int) == 52) = false := hno 52 (by decide)
  have e53 : (((x[0]'h0).toNat : Int) == 53) = false := hno 53 (by decide)
  have e54 : (((x[0]'h0).toNat : Int) == 54) = false := hno 54 (by decide)
  have e55 : (((x[0]'h0).toNat : Int) == 55) = false := hno 55 (by decide)
  have e56 : (((x[0]'h0).toNat : Int) == 56) = false := hno 56 (by decide)
  have e57 : (((x[0]'h0).toNat : Int) == 57) = false := hno 57 (by decide)
  have e34 : (((x[0]'h0).toNat : Int) == 34) = false := hno 34 (by decide)
  have KT : Hid (∀ W R, One W R 9 (.string x) → Calls Tryz.prog 53 #[.func (.func 35) #[] #[], .pointer (some ⟨R, 0, none⟩)] W fun e w' => e = .returned (.string A) ∧ Kp R W w') := Lib.hid (fun W R hW => by rw [hA]; exact (take_nm x R W hW hs).mono (fun _ _ q => ⟨q.1, q.2.2⟩))
  have KF : Hid (∀ W, LV W → Calls Tryz.prog 36 #[.int .i64 2, .string A, .bool b0] W (FsP F W)) := Lib.hid (fun W _ => by rw [hF0]; exact as_any 2 A b0 hAs W)
  clear hA hF0
  clear h hg hno
  go_enter Tryz.func22, Tryz.ntmps22
  go_wp2_with fail
  generalize w.alloc zT = w0 at HR HB0 HS0 ⊢
  have HLV0 := Lib.hid (HLV.out.go HB0.out)
  refine (taker_any x w0).mono ?_
  rintro e w1 ⟨rfl, rfl⟩
  have HB1 := Lib.hid ((Below.refl w0.heap.size w0).alloc (Nat.le_refl _) (.cells #[.string x] 9))
  have HO1 := Lib.hid (show One (w0.alloc (.cells #[.string x] 9)) w0.heap.size 9 (.string x) from heap_alloc_new w0 _)
  generalize w0.alloc (.cells #[.string x] 9) = w1 at HB1 HO1 ⊢
  go_wp2_with fail
  refine (KT.out w1 _ HO1.out).mono ?_
  rintro e w2 ⟨rfl, hk⟩
  have HB12 := Lib.hid (HB1.out.trans hk.bel)
  have HLV2 := Lib.hid (HLV0.out.go HB12.out)
  have HR2 := Lib.hid (row_blk HR.out (HB12.out.block _ (show w.heap.size < w0.heap.size by rw [HS0.out]; omega)))
  have HB2 := Lib.hid (HB0.out.trans (HB12.out.mono (by rw [HS0.out]; omega)))
  have HS2L := Lib.hid (show w.heap.size < w2.heap.size by have := HB12.out.size; have := HS0.out; omega)
  clear hk KT
  have hnb : (!A.toList.isEmpty) = b0 := by rw [hb0]; cases b0 <;> rfl
  go_wp2_with fail
  refine (KF.out w2 HLV2.out).mono ?_
  rintro e wF ⟨hF, hb⟩
  obtain ⟨k, t, n, b, rfl⟩ := fsR_shape hF
  have HF := Lib.hid hF
  have HRF := Lib.hid (row_blk HR2.out (hb.block _ HS2L.out))
  have HBF := Lib.hid (HB2.out.trans (hb.mono (Nat.le_of_lt HS2L.out)))
  clear hF hb KF
  have z0 := HRF.out.cell (show 0 < 3 by decide)
  have z1 := HRF.out.cell (show 1 < 3 by decide)
  have z2 := HRF.out.cell (show 2 < 3 by decide)
  have g0 := HRF.out.frozen 0
  have g1 := HRF.out.frozen 1
  have g2 := HRF.out.frozen 2
  simp only [t3, List.getD_cons_succ, List.getD_cons_zero] at z0 z1 z2
  go_wp2_with fail
  refine bodyPost_ret (v := .tuple #[.agg #[.int .i64 k, .string t, .int .i64 0], .int .i64 n, .bool b]) (by simp [results, Tryz.results22, go_sem, z0, z1, z2]; try rfl) rfl ?_
  exact ⟨HF.out, resT_below HBF.out (Nat.le_refl _)⟩
end Go.Proofs.YtejniiehfangkaaGreatDoor
