/- What stands first: token.first, walked: signs. -/
import Derived.Test.YtejniiehfangkaaGreatDoorKFstA
set_option linter.unusedVariables false
set_option linter.unusedSimpArgs false
namespace Go.Proofs.YtejniiehfangkaaGreatDoor
open Go.RowKit
set_option maxHeartbeats 2000000 in
set_option maxRecDepth 100000 in
theorem fst_s33 (x : ByteArray) (hs : x.size ≤ 1000000) (w : World) (h : LV w) (h0 : 0 < x.size) (hc : (x.get! 0).toNat = 33) (F : Fst) (hF0 : F = asF 1 (x.extract 0 1) true) : Calls Tryz.prog 22 #[.string x] w (FsP F w) := by
  have HLV := Lib.hid h
  have HR := Lib.hid (row3 (heap_alloc_new w (zT)))
  have HB0 := Lib.hid ((Below.refl w.heap.size w).alloc (Nat.le_refl _) zT)
  have HS0 := Lib.hid (show (w.alloc zT).heap.size = w.heap.size + 1 by simp)
  have h63 : decide ((x.size : Int) < 1) = false := decide_eq_false (by omega)
  have hne : x.toList.isEmpty = false := by
    rw [Lib.toList_data]
    cases hq : x.data.toList with
    | nil => rw [Lib.size_eq, hq] at h0; simp at h0
    | cons _ _ => rfl
  have hxx : (x.toList == ([] : List UInt8)) = false := by
    rw [Lib.toList_data]
    cases hq : x.data.toList with
    | nil => rw [Lib.size_eq, hq] at h0; simp at h0
    | cons _ _ => rfl
  have hg := get_bang x 0 h0
  have e33 : (((x[0]'h0).toNat : Int) == 33) = true := by rw [← hg, hc]; rfl
  have KF : Hid (∀ W, LV W → Calls Tryz.prog 36 #[.int .i64 1, .string (x.extract 0 1), .bool true] W (FsP F W)) := Lib.hid (fun W _ => by rw [hF0]; exact as_any 1 (x.extract 0 1) true (by rw [ByteArray.size_extract]; omega) W)
  clear hF0
  clear h hg hc
  go_enter Tryz.func22, Tryz.ntmps22
  go_wp2_with fail
  generalize w.alloc zT = w0 at HR HB0 HS0 ⊢
  have HLV0 := Lib.hid (HLV.out.go HB0.out)
  have HS0L := Lib.hid (show w.heap.size < w0.heap.size by rw [HS0.out]; omega)
  refine (KF.out w0 HLV0.out).mono ?_
  rintro e wF ⟨hF, hb⟩
  obtain ⟨k, t, n, b, rfl⟩ := fsR_shape hF
  have HF := Lib.hid hF
  have HRF := Lib.hid (row_blk HR.out (hb.block _ HS0L.out))
  have HBF := Lib.hid (HB0.out.trans (hb.mono (Nat.le_of_lt HS0L.out)))
  clear hF hb KF
  have z0 := HRF.out.cell (show 0 < 3 by decide)
  have z1 := HRF.out.cell (show 1 < 3 by decide)
  have z2 := HRF.out.cell (show 2 < 3 by decide)
  have g0 := HRF.out.frozen 0
  have g1 := HRF.out.frozen 1
  have g2 := HRF.out.frozen 2
  simp only [t3, List.getD_cons_succ, List.getD_cons_zero] at z0 z1 z2
  go_wp2_with fail
  refine bodyPost_ret (v := .tuple #[.agg #[.int .i64 k, .string t, .int .i64 0], .int .i64 n, .bool b]) (by simp [results, Tryz.results22, go_sem, z0, z1, z2]; try rfl) rfl ?_
  exact ⟨HF.out, resT_below HBF.out (Nat.le_refl _)⟩
set_option maxHeartbeats 2000000 in
set_option maxRecDepth 100000 in
theorem fst_s36 (x : ByteArray) (hs : x.size ≤ 1000000) (w : World) (h : LV w) (h0 : 0 < x.size) (hc : (x.get! 0).toNat = 36) (F : Fst) (hF0 : F = asF 1 (x.extract 0 1) true) : Calls Tryz.prog 22 #[.string x] w (FsP F w) := by
  have HLV := Lib.hid h
  have HR := Lib.hid (row3 (heap_alloc_new w (zT)))
  have HB0 := Lib.hid ((Below.refl w.heap.size w).alloc (Nat.le_refl _) zT)
  have HS0 := Lib.hid (show (w.alloc zT).heap.size = w.heap.size + 1 by simp)
  have h63 : decide ((x.size : Int) < 1) = false := decide_eq_false (by omega)
  have hne : x.toList.isEmpty = false := by
    rw [Lib.toList_data]
    cases hq : x.data.toList with
    | nil => rw [Lib.size_eq, hq] at h0; simp at h0
    | cons _ _ => rfl
  have hxx : (x.toList == ([] : List UInt8)) = false := by
    rw [Lib.toList_data]
    cases hq : x.data.toList with
    | nil => rw [Lib.size_eq, hq] at h0; simp at h0
    | cons _ _ => rfl
  have hg := get_bang x 0 h0
  have e33 : (((x[0]'h0).toNat : Int) == 33) = false := by rw [← hg, hc]; rfl
  have e36 : (((x[0]'h0).toNat : Int) == 36) = true := by rw [← hg, hc]; rfl
  have KF : Hid (∀ W, LV W → Calls Tryz.prog 36 #[.int .i64 1, .string (x.extract 0 1), .bool true] W (FsP F W)) := Lib.hid (fun W _ => by rw [hF0]; exact as_any 1 (x.extract 0 1) true (by rw [ByteArray.size_extract]; omega) W)
  clear hF0
  clear h hg hc
  go_enter Tryz.func22, Tryz.ntmps22
  go_wp2_with fail
  generalize w.alloc zT = w0 at HR HB0 HS0 ⊢
  have HLV0 := Lib.hid (HLV.out.go HB0.out)
  have HS0L := Lib.hid (show w.heap.size < w0.heap.size by rw [HS0.out]; omega)
  refine (KF.out w0 HLV0.out).mono ?_
  rintro e wF ⟨hF, hb⟩
  obtain ⟨k, t, n, b, rfl⟩ := fsR_shape hF
  have HF := Lib.hid hF
  have HRF := Lib.hid (row_blk HR.out (hb.block _ HS0L.out))
  have HBF := Lib.hid (HB0.out.trans (hb.mono (Nat.le_of_lt HS0L.out)))
  clear hF hb KF
  have z0 := HRF.out.cell (show 0 < 3 by decide)
  have z1 := HRF.out.cell (show 1 < 3 by decide)
  have z2 := HRF.out.cell (show 2 < 3 by decide)
  have g0 := HRF.out.frozen 0
  have g1 := HRF.out.frozen 1
  have g2 := HRF.out.frozen 2
  simp only [t3, List.getD_cons_succ, List.getD_cons_zero] at z0 z1 z2
  go_wp2_with fail
  refine bodyPost_ret (v := .tuple #[.agg #[.int .i64 k, .string t, .int .i64 0], .int .i64 n, .bool b]) (by simp [results, Tryz.results22, go_sem, z0, z1, z2]; try rfl) rfl ?_
  exact ⟨HF.out, resT_below HBF.out (Nat.le_refl _)⟩
set_option maxHeartbeats 2000000 in
set_option maxRecDepth 100000 in
theorem fst_s38 (x : ByteArray) (hs : x.size ≤ 1000000) (w : World) (h : LV w) (h0 : 0 < x.size) (hc : (x.get! 0).toNat = 38) (F : Fst) (hF0 : F = asF 1 (x.extract 0 1) true) : Calls Tryz.prog 22 #[.string x] w (FsP F w) := by
  have HLV := Lib.hid h
  have HR := Lib.hid (row3 (heap_alloc_new w (zT)))
  have HB0 := Lib.hid ((Below.refl w.heap.size w).alloc (Nat.le_refl _) zT)
  have HS0 := Lib.hid (show (w.alloc zT).heap.size = w.heap.size + 1 by simp)
  have h63 : decide ((x.size : Int) < 1) = false := decide_eq_false (by omega)
  have hne : x.toList.isEmpty = false := by
    rw [Lib.toList_data]
    cases hq : x.data.toList with
    | nil => rw [Lib.size_eq, hq] at h0; simp at h0
    | cons _ _ => rfl
  have hxx : (x.toList == ([] : List UInt8)) = false := by
    rw [Lib.toList_data]
    cases hq : x.data.toList with
    | nil => rw [Lib.size_eq, hq] at h0; simp at h0
    | cons _ _ => rfl
  have hg := get_bang x 0 h0
  have e33 : (((x[0]'h0).toNat : Int) == 33) = false := by rw [← hg, hc]; rfl
  have e36 : (((x[0]'h0).toNat : Int) == 36) = false := by rw [← hg, hc]; rfl
  have e38 : (((x[0]'h0).toNat : Int) == 38) = true := by rw [← hg, hc]; rfl
  have KF : Hid (∀ W, LV W → Calls Tryz.prog 36 #[.int .i64 1, .string (x.extract 0 1), .bool true] W (FsP F W)) := Lib.hid (fun W _ => by rw [hF0]; exact as_any 1 (x.extract 0 1) true (by rw [ByteArray.size_extract]; omega) W)
  clear hF0
  clear h hg hc
  go_enter Tryz.func22, Tryz.ntmps22
  go_wp2_with fail
  generalize w.alloc zT = w0 at HR HB0 HS0 ⊢
  have HLV0 := Lib.hid (HLV.out.go HB0.out)
  have HS0L := Lib.hid (show w.heap.size < w0.heap.size by rw [HS0.out]; omega)
  refine (KF.out w0 HLV0.out).mono ?_
  rintro e wF ⟨hF, hb⟩
  obtain ⟨k, t, n, b, rfl⟩ := fsR_shape hF
  have HF := Lib.hid hF
  have HRF := Lib.hid (row_blk HR.out (hb.block _ HS0L.out))
  have HBF := Lib.hid (HB0.out.trans (hb.mono (Nat.le_of_lt HS0L.out)))
  clear hF hb KF
  have z0 := HRF.out.cell (show 0 < 3 by decide)
  have z1 := HRF.out.cell (show 1 < 3 by decide)
  have z2 := HRF.out.cell (show 2 < 3 by decide)
  have g0 := HRF.out.frozen 0
  have g1 := HRF.out.frozen 1
  have g2 := HRF.out.frozen 2
  simp only [t3, List.getD_cons_succ, List.getD_cons_zero] at z0 z1 z2
  go_wp2_with fail
  refine bodyPost_ret (v := .tuple #[.agg #[.int .i64 k, .string t, .int .i64 0], .int .i64 n, .bool b]) (by simp [results, Tryz.results22, go_sem, z0, z1, z2]; try rfl) rfl ?_
  exact ⟨HF.out, resT_below HBF.out (Nat.le_refl _)⟩
set_option maxHeartbeats 2000000 in
set_option maxRecDepth 100000 in
theorem fst_s40 (x : ByteArray) (hs : x.size ≤ 1000000) (w : World) (h : LV w) (h0 : 0 < x.size) (hc : (x.get! 0).toNat = 40) (F : Fst) (hF0 : F = asF 1 (x.extract 0 1) true) : Calls Tryz.prog 22 #[.string x] w (FsP F w) := by
  have HLV := Lib.hid h
  have HR := Lib.hid (row3 (heap_alloc_new w (zT)))
  have HB0 := Lib.hid ((Below.refl w.heap.size w).alloc (Nat.le_refl _) zT)
  have HS0 := Lib.hid (show (w.alloc zT).heap.size = w.heap.size + 1 by simp)
  have h63 : decide ((x.size : Int) < 1) = false := decide_eq_false (by omega)
  have hne : x.toList.isEmpty = false := by
    rw [Lib.toList_data]
    cases hq : x.data.toList with
    | nil => rw [Lib.size_eq, hq] at h0; simp at h0
    | cons _ _ => rfl
  have hxx : (x.toList == ([] : List UInt8)) = false := by
    rw [Lib.toList_data]
    cases hq : x.data.toList with
    | nil => rw [Lib.size_eq, hq] at h0; simp at h0
    | cons _ _ => rfl
  have hg := get_bang x 0 h0
  have e33 : (((x[0]'h0).toNat : Int) == 33) = false := by rw [← hg, hc]; rfl
  have e36 : (((x[0]'h0).toNat : Int) == 36) = false := by rw [← hg, hc]; rfl
  have e38 : (((x[0]'h0).toNat : Int) == 38) = false := by rw [← hg, hc]; rfl
  have e40 : (((x[0]'h0).toNat : Int) == 40) = true := by rw [← hg, hc]; rfl
  have KF : Hid (∀ W, LV W → Calls Tryz.prog 36 #[.int .i64 1, .string (x.extract 0 1), .bool true] W (FsP F W)) := Lib.hid (fun W _ => by rw [hF0]; exact as_any 1 (x.extract 0 1) true (by rw [ByteArray.size_extract]; omega) W)
  clear hF0
  clear h hg hc
  go_enter Tryz.func22, Tryz.ntmps22
  go_wp2_with fail
  generalize w.alloc zT = w0 at HR HB0 HS0 ⊢
  have HLV0 := Lib.hid (HLV.out.go HB0.out)
  have HS0L := Lib.hid (show w.heap.size < w0.heap.size by rw [HS0.out]; omega)
  refine (KF.out w0 HLV0.out).mono ?_
  rintro e wF ⟨hF, hb⟩
  obtain ⟨k, t, n, b, rfl⟩ := fsR_shape hF
  have HF := Lib.hid hF
  have HRF := Lib.hid (row_blk HR.out (hb.block _ HS0L.out))
  have HBF := Lib.hid (HB0.out.trans (hb.mono (Nat.le_of_lt HS0L.out)))
  clear hF hb KF
  have z0 := HRF.out.cell (show 0 < 3 by decide)
  have z1 := HRF.out.cell (show 1 < 3 by decide)
  have z2 := HRF.out.cell (show 2 < 3 by decide)
  have g0 := HRF.out.frozen 0
  have g1 := HRF.out.frozen 1
  have g2 := HRF.out.frozen 2
  simp only [t3, List.getD_cons_succ, List.getD_cons_zero] at z0 z1 z2
  go_wp2_with fail
  refine bodyPost_ret (v := .tuple #[.agg #[.int .i64 k, .string t, .int .i64 0], .int .i64 n, .bool b]) (by simp [results, Tryz.results22, go_sem, z0, z1, z2]; try rfl) rfl ?_
  exact ⟨HF.out, resT_below HBF.out (Nat.le_refl _)⟩
set_option maxHeartbeats 2000000 in
set_option maxRecDepth 100000 in
theorem fst_s41 (x : ByteArray) (hs : x.size ≤ 1000000) (w : World) (h : LV w) (h0 : 0 < x.size) (hc : (x.get! 0).toNat = 41) (F : Fst) (hF0 : F = asF 1 (x.extract 0 1) true) : Calls Tryz.prog 22 #[.string x] w (FsP F w) := by
  have HLV := Lib.hid h
  have HR := Lib.hid (row3 (heap_alloc_new w (zT)))
  have HB0 := Lib.hid ((Below.refl w.heap.size w).alloc (Nat.le_refl _) zT)
  have HS0 := Lib.hid (show (w.alloc zT).heap.size = w.heap.size + 1 by simp)
  have h63 : decide ((x.size : Int) < 1) = false := decide_eq_false (by omega)
  have hne : x.toList.isEmpty = false := by
    rw [Lib.toList_data]
    cases hq : x.data.toList with
    | nil => rw [Lib.size_eq, hq] at h0; simp at h0
    | cons _ _ => rfl
  have hxx : (x.toList == ([] : List UInt8)) = false := by
    rw [Lib.toList_data]
    cases hq : x.data.toList with
    | nil => rw [Lib.size_eq, hq] at h0; simp at h0
    | cons _ _ => rfl
  have hg := get_bang x 0 h0
  have e33 : (((x[0]'h0).toNat : Int) == 33) = false := by rw [← hg, hc]; rfl
  have e36 : (((x[0]'h0).toNat : Int) == 36) = false := by rw [← hg, hc]; rfl
  have e38 : (((x[0]'h0).toNat : Int) == 38) = false := by rw [← hg, hc]; rfl
  have e40 : (((x[0]'h0).toNat : Int) == 40) = false := by rw [← hg, hc]; rfl
  have e41 : (((x[0]'h0).toNat : Int) == 41) = true := by rw [← hg, hc]; rfl
  have KF : Hid (∀ W, LV W → Calls Tryz.prog 36 #[.int .i64 1, .string (x.extract 0 1), .bool true] W (FsP F W)) := Lib.hid (fun W _ => by rw [hF0]; exact as_any 1 (x.extract 0 1) true (by rw [ByteArray.size_extract]; omega) W)
  clear hF0
  clear h hg hc
  go_enter Tryz.func22, Tryz.ntmps22
  go_wp2_with fail
  generalize w.alloc zT = w0 at HR HB0 HS0 ⊢
  have HLV0 := Lib.hid (HLV.out.go HB0.out)
  have HS0L := Lib.hid (show w.heap.size < w0.heap.size by rw [HS0.out]; omega)
  refine (KF.out w0 HLV0.out).mono ?_
  rintro e wF ⟨hF, hb⟩
  obtain ⟨k, t, n, b, rfl⟩ := fsR_shape hF
  have HF := Lib.hid hF
  have HRF := Lib.hid (row_blk HR.out (hb.block _ HS0L.out))
  have HBF := Lib.hid (HB0.out.trans (hb.mono (Nat.le_of_lt HS0L.out)))
  clear hF hb KF
  have z0 := HRF.out.cell (show 0 < 3 by decide)
  have z1 := HRF.out.cell (show 1 < 3 by decide)
  have z2 := HRF.out.cell (show 2 < 3 by decide)
  have g0 := HRF.out.frozen 0
  have g1 := HRF.out.frozen 1
  have g2 := HRF.out.frozen 2
  simp only [t3, List.getD_cons_succ, List.getD_cons_zero] at z0 z1 z2
  go_wp2_with fail
  refine bodyPost_ret (v := .tuple #[.agg #[.int .i64 k, .string t, .int .i64 0], .int .i64 n, .bool b]) (by simp [results, Tryz.results22, go_sem, z0, z1, z2]; try rfl) rfl ?_
  exact ⟨HF.out, resT_below HBF.out (Nat.le_refl _)⟩
set_option maxHeartbeats 2000000 in
set_option maxRecDepth 100000 in
theorem fst_s58 (x : ByteArray) (hs : x.size ≤ 1000000) (w : World) (h : LV w) (h0 : 0 < x.size) (hc : (x.get! 0).toNat = 58) (F : Fst) (hF0 : F = asF 1 (x.extract 0 1) true) : Calls Tryz.prog 22 #[.string x] w (FsP F w) := by
  have HLV := Lib.hid h
  have HR := Lib.hid (row3 (heap_alloc_new w (zT)))
  have HB0 := Lib.hid ((Below.refl w.heap.size w).alloc (Nat.le_refl _) zT)
  have HS0 := Lib.hid (show (w.alloc zT).heap.size = w.heap.size + 1 by simp)
  have h63 : decide ((x.size : Int) < 1) = false := decide_eq_false (by omega)
  have hne : x.toList.isEmpty = false := by
    rw [Lib.toList_data]
    cases hq : x.data.toList with
    | nil => rw [Lib.size_eq, hq] at h0; simp at h0
    | cons _ _ => rfl
  have hxx : (x.toList == ([] : List UInt8)) = false := by
    rw [Lib.toList_data]
    cases hq : x.data.toList with
    | nil => rw [Lib.size_eq, hq] at h0; simp at h0
    | cons _ _ => rfl
  have hg := get_bang x 0 h0
  have e33 : (((x[0]'h0).toNat : Int) == 33) = false := by rw [← hg, hc]; rfl
  have e36 : (((x[0]'h0).toNat : Int) == 36) = false := by rw [← hg, hc]; rfl
  have e38 : (((x[0]'h0).toNat : Int) == 38) = false := by rw [← hg, hc]; rfl
  have e40 : (((x[0]'h0).toNat : Int) == 40) = false := by rw [← hg, hc]; rfl
  have e41 : (((x[0]'h0).toNat : Int) == 41) = false := by rw [← hg, hc]; rfl
  have e58 : (((x[0]'h0).toNat : Int) == 58) = true := by rw [← hg, hc]; rfl
  have KF : Hid (∀ W, LV W → Calls Tryz.prog 36 #[.int .i64 1, .string (x.extract 0 1), .bool true] W (FsP F W)) := Lib.hid (fun W _ => by rw [hF0]; exact as_any 1 (x.extract 0 1) true (by rw [ByteArray.size_extract]; omega) W)
  clear hF0
  clear h hg hc
  go_enter Tryz.func22, Tryz.ntmps22
  go_wp2_with fail
  generalize w.alloc zT = w0 at HR HB0 HS0 ⊢
  have HLV0 := Lib.hid (HLV.out.go HB0.out)
  have HS0L := Lib.hid (show w.heap.size < w0.heap.size by rw [HS0.out]; omega)
  refine (KF.out w0 HLV0.out).mono ?_
  rintro e wF ⟨hF, hb⟩
  obtain ⟨k, t, n, b, rfl⟩ := fsR_shape hF
  have HF := Lib.hid hF
  have HRF := Lib.hid (row_blk HR.out (hb.block _ HS0L.out))
  have HBF := Lib.hid (HB0.out.trans (hb.mono (Nat.le_of_lt HS0L.out)))
  clear hF hb KF
  have z0 := HRF.out.cell (show 0 < 3 by decide)
  have z1 := HRF.out.cell (show 1 < 3 by decide)
  have z2 := HRF.out.cell (show 2 < 3 by decide)
  have g0 := HRF.out.frozen 0
  have g1 := HRF.out.frozen 1
  have g2 := HRF.out.frozen 2
  simp only [t3, List.getD_cons_succ, List.getD_cons_zero] at z0 z1 z2
  go_wp2_with fail
  refine bodyPost_ret (v := .tuple #[.agg #[.int .i64 k, .string t, .int .i64 0], .int .i64 n, .bool b]) (by simp [results, Tryz.results22, go_sem, z0, z1, z2]; try rfl) rfl ?_
  exact ⟨HF.out, resT_below HBF.out (Nat.le_refl _)⟩
set_option maxHeartbeats 2000000 in
set_option maxRecDepth 100000 in
theorem fst_s61 (x : ByteArray) (hs : x.size ≤ 1000000) (w : World) (h : LV w) (h0 : 0 < x.size) (hc : (x.get! 0).toNat = 61) (F : Fst) (hF0 : F = asF 1 (x.extract 0 1) true) : Calls Tryz.prog 22 #[.string x] w (FsP F w) := by
  have HLV := Lib.hid h
  have HR := Lib.hid (row3 (heap_alloc_new w (zT)))
  have HB0 := Lib.hid ((Below.refl w.heap.size w).alloc (Nat.le_refl _) zT)
  have HS0 := Lib.hid (show (w.alloc zT).heap.size = w.heap.size + 1 by simp)
  have h63 : decide ((x.size : Int) < 1) = false := decide_eq_false (by omega)
  have hne : x.toList.isEmpty = false := by
    rw [Lib.toList_data]
    cases hq : x.data.toList with
    | nil => rw [Lib.size_eq, hq] at h0; simp at h0
    | cons _ _ => rfl
  have hxx : (x.toList == ([] : List UInt8)) = false := by
    rw [Lib.toList_data]
    cases hq : x.data.toList with
    | nil => rw [Lib.size_eq, hq] at h0; simp at h0
    | cons _ _ => rfl
  have hg := get_bang x 0 h0
  have e33 : (((x[0]'h0).toNat : Int) == 33) = false := by rw [← hg, hc]; rfl
  have e36 : (((x[0]'h0).toNat : Int) == 36) = false := by rw [← hg, hc]; rfl
  have e38 : (((x[0]'h0).toNat : Int) == 38) = false := by rw [← hg, hc]; rfl
  have e40 : (((x[0]'h0).toNat : Int) == 40) = false := by rw [← hg, hc]; rfl
  have e41 : (((x[0]'h0).toNat : Int) == 41) = false := by rw [← hg, hc]; rfl
  have e58 : (((x[0]'h0).toNat : Int) == 58) = false := by rw [← hg, hc]; rfl
  have e61 : (((x[0]'h0).toNat : Int) == 61) = true := by rw [← hg, hc]; rfl
  have KF : Hid (∀ W, LV W → Calls Tryz.prog 36 #[.int .i64 1, .string (x.extract 0 1), .bool true] W (FsP F W)) := Lib.hid (fun W _ => by rw [hF0]; exact as_any 1 (x.extract 0 1) true (by rw [ByteArray.size_extract]; omega) W)
  clear hF0
  clear h hg hc
  go_enter Tryz.func22, Tryz.ntmps22
  go_wp2_with fail
  generalize w.alloc zT = w0 at HR HB0 HS0 ⊢
  have HLV0 := Lib.hid (HLV.out.go HB0.out)
  have HS0L := Lib.hid (show w.heap.size < w0.heap.size by rw [HS0.out]; omega)
  refine (KF.out w0 HLV0.out).mono ?_
  rintro e wF ⟨hF, hb⟩
  obtain ⟨k, t, n, b, rfl⟩ := fsR_shape hF
  have HF := Lib.hid hF
  have HRF := Lib.hid (row_blk HR.out (hb.block _ HS0L.out))
  have HBF := Lib.hid (HB0.out.trans (hb.mono (Nat.le_of_lt HS0L.out)))
  clear hF hb KF
  have z0 := HRF.out.cell (show 0 < 3 by decide)
  have z1 := HRF.out.cell (show 1 < 3 by decide)
  have z2 := HRF.out.cell (show 2 < 3 by decide)
  have g0 := HRF.out.frozen 0
  have g1 := HRF.out.frozen 1
  have g2 := HRF.out.frozen 2
  simp only [t3, List.getD_cons_succ, List.getD_cons_zero] at z0 z1 z2
  go_wp2_with fail
  refine bodyPost_ret (v := .tuple #[.agg #[.int .i64 k, .string t, .int .i64 0], .int .i64 n, .bool b]) (by simp [results, Tryz.results22, go_sem, z0, z1, z2]; try rfl) rfl ?_
  exact ⟨HF.out, resT_below HBF.out (Nat.le_refl _)⟩
set_option maxHeartbeats 2000000 in
set_option maxRecDepth 100000 in
theorem fst_s64 (x : ByteArray) (hs : x.size ≤ 1000000) (w : World) (h : LV w) (h0 : 0 < x.size) (hc : (x.get! 0).toNat = 64) (F : Fst) (hF0 : F = asF 1 (x.extract 0 1) true) : Calls Tryz.prog 22 #[.string x] w (FsP F w) := by
  have HLV := Lib.hid h
  have HR := Lib.hid (row3 (heap_alloc_new w (zT)))
  have HB0 := Lib.hid ((Below.refl w.heap.size w).alloc (Nat.le_refl _) zT)
  have HS0 := Lib.hid (show (w.alloc zT).heap.size = w.heap.size + 1 by simp)
  have h63 : decide ((x.size : Int) < 1) = false := decide_eq_false (by omega)
  have hne : x.toList.isEmpty = false := by
    rw [Lib.toList_data]
    cases hq : x.data.toList with
    | nil => rw [Lib.size_eq, hq] at h0; simp at h0
    | cons _ _ => rfl
  have hxx : (x.toList == ([] : List UInt8)) = false := by
    rw [Lib.toList_data]
    cases hq : x.data.toList with
    | nil => rw [Lib.size_eq, hq] at h0; simp at h0
    | cons _ _ => rfl
  have hg := get_bang x 0 h0
  have e33 : (((x[0]'h0).toNat : Int) == 33) = false := by rw [← hg, hc]; rfl
  have e36 : (((x[0]'h0).toNat : Int) == 36) = false := by rw [← hg, hc]; rfl
  have e38 : (((x[0]'h0).toNat : Int) == 38) = false := by rw [← hg, hc]; rfl
  have e40 : (((x[0]'h0).toNat : Int) == 40) = false := by rw [← hg, hc]; rfl
  have e41 : (((x[0]'h0).toNat : Int) == 41) = false := by rw [← hg, hc]; rfl
  have e58 : (((x[0]'h0).toNat : Int) == 58) = false := by rw [← hg, hc]; rfl
  have e61 : (((x[0]'h0).toNat : Int) == 61) = false := by rw [← hg, hc]; rfl
  have e64 : (((x[0]'h0).toNat : Int) == 64) = true := by rw [← hg, hc]; rfl
  have KF : Hid (∀ W, LV W → Calls Tryz.prog 36 #[.int .i64 1, .string (x.extract 0 1), .bool true] W (FsP F W)) := Lib.hid (fun W _ => by rw [hF0]; exact as_any 1 (x.extract 0 1) true (by rw [ByteArray.size_extract]; omega) W)
  clear hF0
  clear h hg hc
  go_enter Tryz.func22, Tryz.ntmps22
  go_wp2_with fail
  generalize w.alloc zT = w0 at HR HB0 HS0 ⊢
  have HLV0 := Lib.hid (HLV.out.go HB0.out)
  have HS0L := Lib.hid (show w.heap.size < w0.heap.size by rw [HS0.out]; omega)
  refine (KF.out w0 HLV0.out).mono ?_
  rintro e wF ⟨hF, hb⟩
  obtain ⟨k, t, n, b, rfl⟩ := fsR_shape hF
  have HF := Lib.hid hF
  have HRF := Lib.hid (row_blk HR.out (hb.block _ HS0L.out))
  have HBF := Lib.hid (HB0.out.trans (hb.mono (Nat.le_of_lt HS0L.out)))
  clear hF hb KF
  have z0 := HRF.out.cell (show 0 < 3 by decide)
  have z1 := HRF.out.cell (show 1 < 3 by decide)
  have z2 := HRF.out.cell (show 2 < 3 by decide)
  have g0 := HRF.out.frozen 0
  have g1 := HRF.out.frozen 1
  have g2 := HRF.out.frozen 2
  simp only [t3, List.getD_cons_succ, List.getD_cons_zero] at z0 z1 z2
  go_wp2_with fail
  refine bodyPost_ret (v := .tuple #[.agg #[.int .i64 k, .string t, .int .i64 0], .int .i64 n, .bool b]) (by simp [results, Tryz.results22, go_sem, z0, z1, z2]; try rfl) rfl ?_
  exact ⟨HF.out, resT_below HBF.out (Nat.le_refl _)⟩
set_option maxHeartbeats 2000000 in
set_option maxRecDepth 100000 in
theorem fst_s91 (x : ByteArray) (hs : x.size ≤ 1000000) (w : World) (h : LV w) (h0 : 0 < x.size) (hc : (x.get! 0).toNat = 91) (F : Fst) (hF0 : F = asF 1 (x.extract 0 1) true) : Calls Tryz.prog 22 #[.string x] w (FsP F w) := by
  have HLV := Lib.hid h
  have HR := Lib.hid (row3 (heap_alloc_new w (zT)))
  have HB0 := Lib.hid ((Below.refl w.heap.size w).alloc (Nat.le_refl _) zT)
  have HS0 := Lib.hid (show (w.alloc zT).heap.size = w.heap.size + 1 by simp)
  have h63 : decide ((x.size : Int) < 1) = false := decide_eq_false (by omega)
  have hne : x.toList.isEmpty = false := by
    rw [Lib.toList_data]
    cases hq : x.data.toList with
    | nil => rw [Lib.size_eq, hq] at h0; simp at h0
    | cons _ _ => rfl
  have hxx : (x.toList == ([] : List UInt8)) = false := by
    rw [Lib.toList_data]
    cases hq : x.data.toList with
    | nil => rw [Lib.size_eq, hq] at h0; simp at h0
    | cons _ _ => rfl
  have hg := get_bang x 0 h0
  have e33 : (((x[0]'h0).toNat : Int) == 33) = false := by rw [← hg, hc]; rfl
  have e36 : (((x[0]'h0).toNat : Int) == 36) = false := by rw [← hg, hc]; rfl
  have e38 : (((x[0]'h0).toNat : Int) == 38) = false := by rw [← hg, hc]; rfl
  have e40 : (((x[0]'h0).toNat : Int) == 40) = false := by rw [← hg, hc]; rfl
  have e41 : (((x[0]'h0).toNat : Int) == 41) = false := by rw [← hg, hc]; rfl
  have e58 : (((x[0]'h0).toNat : Int) == 58) = false := by rw [← hg, hc]; rfl
  have e61 : (((x[0]'h0).toNat : Int) == 61) = false := by rw [← hg, hc]; rfl
  have e64 : (((x[0]'h0).toNat : Int) == 64) = false := by rw [← hg, hc]; rfl
  have e91 : (((x[0]'h0).toNat : Int) == 91) = true := by rw [← hg, hc]; rfl
  have KF : Hid (∀ W, LV W → Calls Tryz.prog 36 #[.int .i64 1, .string (x.extract 0 1), .bool true] W (FsP F W)) := Lib.hid (fun W _ => by rw [hF0]; exact as_any 1 (x.extract 0 1) true (by rw [ByteArray.size_extract]; omega) W)
  clear hF0
  clear h hg hc
  go_enter Tryz.func22, Tryz.ntmps22
  go_wp2_with fail
  generalize w.alloc zT = w0 at HR HB0 HS0 ⊢
  have HLV0 := Lib.hid (HLV.out.go HB0.out)
  have HS0L := Lib.hid (show w.heap.size < w0.heap.size by rw [HS0.out]; omega)
  refine (KF.out w0 HLV0.out).mono ?_
  rintro e wF ⟨hF, hb⟩
  obtain ⟨k, t, n, b, rfl⟩ := fsR_shape hF
  have HF := Lib.hid hF
  have HRF := Lib.hid (row_blk HR.out (hb.block _ HS0L.out))
  have HBF := Lib.hid (HB0.out.trans (hb.mono (Nat.le_of_lt HS0L.out)))
  clear hF hb KF
  have z0 := HRF.out.cell (show 0 < 3 by decide)
  have z1 := HRF.out.cell (show 1 < 3 by decide)
  have z2 := HRF.out.cell (show 2 < 3 by decide)
  have g0 := HRF.out.frozen 0
  have g1 := HRF.out.frozen 1
  have g2 := HRF.out.frozen 2
  simp only [t3, List.getD_cons_succ, List.getD_cons_zero] at z0 z1 z2
  go_wp2_with fail
  refine bodyPost_ret (v := .tuple #[.agg #[.int .i64 k, .string t, .int .i64 0], .int .i64 n, .bool b]) (by simp [results, Tryz.results22, go_sem, z0, z1, z2]; try rfl) rfl ?_
  exact ⟨HF.out, resT_below HBF.out (Nat.le_refl _)⟩
set_option maxHeartbeats 2000000 in
set_option maxRecDepth 100000 in
theorem fst_s93 (x : ByteArray) (hs : x.size ≤ 1000000) (w : World) (h : LV w) (h0 : 0 < x.size) (hc : (x.get! 0).toNat = 93) (F : Fst) (hF0 : F = asF 1 (x.extract 0 1) true) : Calls Tryz.prog 22 #[.string x] w (FsP F w) := by
  have HLV := Lib.hid h
  have HR := Lib.hid (row3 (heap_alloc_new w (zT)))
  have HB0 := Lib.hid ((Below.refl w.heap.size w).alloc (Nat.le_refl _) zT)
  have HS0 := Lib.hid (show (w.alloc zT).heap.size = w.heap.size + 1 by simp)
  have h63 : decide ((x.size : Int) < 1) = false := decide_eq_false (by omega)
  have hne : x.toList.isEmpty = false := by
    rw [Lib.toList_data]
    cases hq : x.data.toList with
    | nil => rw [Lib.size_eq, hq] at h0; simp at h0
    | cons _ _ => rfl
  have hxx : (x.toList == ([] : List UInt8)) = false := by
    rw [Lib.toList_data]
    cases hq : x.data.toList with
    | nil => rw [Lib.size_eq, hq] at h0; simp at h0
    | cons _ _ => rfl
  have hg := get_bang x 0 h0
  have e33 : (((x[0]'h0).toNat : Int) == 33) = false := by rw [← hg, hc]; rfl
  have e36 : (((x[0]'h0).toNat : Int) == 36) = false := by rw [← hg, hc]; rfl
  have e38 : (((x[0]'h0).toNat : Int) == 38) = false := by rw [← hg, hc]; rfl
  have e40 : (((x[0]'h0).toNat : Int) == 40) = false := by rw [← hg, hc]; rfl
  have e41 : (((x[0]'h0).toNat : Int) == 41) = false := by rw [← hg, hc]; rfl
  have e58 : (((x[0]'h0).toNat : Int) == 58) = false := by rw [← hg, hc]; rfl
  have e61 : (((x[0]'h0).toNat : Int) == 61) = false := by rw [← hg, hc]; rfl
  have e64 : (((x[0]'h0).toNat : Int) == 64) = false := by rw [← hg, hc]; rfl
  have e91 : (((x[0]'h0).toNat : Int) == 91) = false := by rw [← hg, hc]; rfl
  have e93 : (((x[0]'h0).toNat : Int) == 93) = true := by rw [← hg, hc]; rfl
  have KF : Hid (∀ W, LV W → Calls Tryz.prog 36 #[.int .i64 1, .string (x.extract 0 1), .bool true] W (FsP F W)) := Lib.hid (fun W _ => by rw [hF0]; exact as_any 1 (x.extract 0 1) true (by rw [ByteArray.size_extract]; omega) W)
  clear hF0
  clear h hg hc
  go_enter Tryz.func22, Tryz.ntmps22
  go_wp2_with fail
  generalize w.alloc zT = w0 at HR HB0 HS0 ⊢
  have HLV0 := Lib.hid (HLV.out.go HB0.out)
  have HS0L := Lib.hid (show w.heap.size < w0.heap.size by rw [HS0.out]; omega)
  refine (KF.out w0 HLV0.out).mono ?_
  rintro e wF ⟨hF, hb⟩
  obtain ⟨k, t, n, b, rfl⟩ := fsR_shape hF
  have HF := Lib.hid hF
  have HRF := Lib.hid (row_blk HR.out (hb.block _ HS0L.out))
  have HBF := Lib.hid (HB0.out.trans (hb.mono (Nat.le_of_lt HS0L.out)))
  clear hF hb KF
  have z0 := HRF.out.cell (show 0 < 3 by decide)
  have z1 := HRF.out.cell (show 1 < 3 by decide)
  have z2 := HRF.out.cell (show 2 < 3 by decide)
  have g0 := HRF.out.frozen 0
  have g1 := HRF.out.frozen 1
  have g2 := HRF.out.frozen 2
  simp only [t3, List.getD_cons_succ, List.getD_cons_zero] at z0 z1 z2
  go_wp2_with fail
  refine bodyPost_ret (v := .tuple #[.agg #[.int .i64 k, .string t, .int .i64 0], .int .i64 n, .bool b]) (by simp [results, Tryz.results22, go_sem, z0, z1, z2]; try rfl) rfl ?_
  exact ⟨HF.out, resT_below HBF.out (Nat.le_refl _)⟩
set_option maxHeartbeats 2000000 in
set_option maxRecDepth 100000 in
theorem fst_s123 (x : ByteArray) (hs : x.size ≤ 1000000) (w : World) (h : LV w) (h0 : 0 < x.size) (hc : (x.get! 0).toNat = 123) (F : Fst) (hF0 : F = asF 1 (x.extract 0 1) true) : Calls Tryz.prog 22 #[.string x] w (FsP F w) := by
  have HLV := Lib.hid h
  have HR := Lib.hid (row3 (heap_alloc_new w (zT)))
  have HB0 := Lib.hid ((Below.refl w.heap.size w).alloc (Nat.le_refl _) zT)
  have HS0 := Lib.hid (show (w.alloc zT).heap.size = w.heap.size + 1 by simp)
  have h63 : decide ((x.size : Int) < 1) = false := decide_eq_false (by omega)
  have hne : x.toList.isEmpty = false := by
    rw [Lib.toList_data]
    cases hq : x.data.toList with
    | nil => rw [Lib.size_eq, hq] at h0; simp at h0
    | cons _ _ => rfl
  have hxx : (x.toList == ([] : List UInt8)) = false := by
    rw [Lib.toList_data]
    cases hq : x.data.toList with
    | nil => rw [Lib.size_eq, hq] at h0; simp at h0
    | cons _ _ => rfl
  have hg := get_bang x 0 h0
  have e33 : (((x[0]'h0).toNat : Int) == 33) = false := by rw [← hg, hc]; rfl
  have e36 : (((x[0]'h0).toNat : Int) == 36) = false := by rw [← hg, hc]; rfl
  have e38 : (((x[0]'h0).toNat : Int) == 38) = false := by rw [← hg, hc]; rfl
  have e40 : (((x[0]'h0).toNat : Int) == 40) = false := by rw [← hg, hc]; rfl
  have e41 : (((x[0]'h0).toNat : Int) == 41) = false := by rw [← hg, hc]; rfl
  have e58 : (((x[0]'h0).toNat : Int) == 58) = false := by rw [← hg, hc]; rfl
  have e61 : (((x[0]'h0).toNat : Int) == 61) = false := by rw [← hg, hc]; rfl
  have e64 : (((x[0]'h0).toNat : Int) == 64) = false := by rw [← hg, hc]; rfl
  have e91 : (((x[0]'h0).toNat : Int) == 91) = false := by rw [← hg, hc]; rfl
  have e93 : (((x[0]'h0).toNat : Int) == 93) = false := by rw [← hg, hc]; rfl
  have e123 : (((x[0]'h0).toNat : Int) == 123) = true := by rw [← hg, hc]; rfl
  have KF : Hid (∀ W, LV W → Calls Tryz.prog 36 #[.int .i64 1, .string (x.extract 0 1), .bool true] W (FsP F W)) := Lib.hid (fun W _ => by rw [hF0]; exact as_any 1 (x.extract 0 1) true (by rw [ByteArray.size_extract]; omega) W)
  clear hF0
  clear h hg hc
  go_enter Tryz.func22, Tryz.ntmps22
  go_wp2_with fail
  generalize w.alloc zT = w0 at HR HB0 HS0 ⊢
  have HLV0 := Lib.hid (HLV.out.go HB0.out)
  have HS0L := Lib.hid (show w.heap.size < w0.heap.size by rw [HS0.out]; omega)
  refine (KF.out w0 HLV0.out).mono ?_
  rintro e wF ⟨hF, hb⟩
  obtain ⟨k, t, n, b, rfl⟩ := fsR_shape hF
  have HF := Lib.hid hF
  have HRF := Lib.hid (row_blk HR.out (hb.block _ HS0L.out))
  have HBF := Lib.hid (HB0.out.trans (hb.mono (Nat.le_of_lt HS0L.out)))
  clear hF hb KF
  have z0 := HRF.out.cell (show 0 < 3 by decide)
  have z1 := HRF.out.cell (show 1 < 3 by decide)
  have z2 := HRF.out.cell (show 2 < 3 by decide)
  have g0 := HRF.out.frozen 0
  have g1 := HRF.out.frozen 1
  have g2 := HRF.out.frozen 2
  simp only [t3, List.getD_cons_succ, List.getD_cons_zero] at z0 z1 z2
  go_wp2_with fail
  refine bodyPost_ret (v := .tuple #[.agg #[.int .i64 k, .string t, .int .i64 0], .int .i64 n, .bool b]) (by simp [results, Tryz.results22, go_sem, z0, z1, z2]; try rfl) rfl ?_
  exact ⟨HF.out, resT_below HBF.out (Nat.le_refl _)⟩
set_option maxHeartbeats 2000000 in
set_option maxRecDepth 100000 in
theorem fst_s124 (x : ByteArray) (hs : x.size ≤ 1000000) (w : World) (h : LV w) (h0 : 0 < x.size) (hc : (x.get! 0).toNat = 124) (F : Fst) (hF0 : F = asF 1 (x.extract 0 1) true) : Calls Tryz.prog 22 #[.string x] w (FsP F w) := by
  have HLV := Lib.hid h
  have HR := Lib.hid (row3 (heap_alloc_new w (zT)))
  have HB0 := Lib.hid ((Below.refl w.heap.size w).alloc (Nat.le_refl _) zT)
  have HS0 := Lib.hid (show (w.alloc zT).heap.size = w.heap.size + 1 by simp)
  have h63 : decide ((x.size : Int) < 1) = false := decide_eq_false (by omega)
  have hne : x.toList.isEmpty = false := by
    rw [Lib.toList_data]
    cases hq : x.data.toList with
    | nil => rw [Lib.size_eq, hq] at h0; simp at h0
    | cons _ _ => rfl
  have hxx : (x.toList == ([] : List UInt8)) = false := by
    rw [Lib.toList_data]
    cases hq : x.data.toList with
    | nil => rw [Lib.size_eq, hq] at h0; simp at h0
    | cons _ _ => rfl
  have hg := get_bang x 0 h0
  have e33 : (((x[0]'h0).toNat : Int) == 33) = false := by rw [← hg, hc]; rfl
  have e36 : (((x[0]'h0).toNat : Int) == 36) = false := by rw [← hg, hc]; rfl
  have e38 : (((x[0]'h0).toNat : Int) == 38) = false := by rw [← hg, hc]; rfl
  have e40 : (((x[0]'h0).toNat : Int) == 40) = false := by rw [← hg, hc]; rfl
  have e41 : (((x[0]'h0).toNat : Int) == 41) = false := by rw [← hg, hc]; rfl
  have e58 : (((x[0]'h0).toNat : Int) == 58) = false := by rw [← hg, hc]; rfl
  have e61 : (((x[0]'h0).toNat : Int) == 61) = false := by rw [← hg, hc]; rfl
  have e64 : (((x[0]'h0).toNat : Int) == 64) = false := by rw [← hg, hc]; rfl
  have e91 : (((x[0]'h0).toNat : Int) == 91) = false := by rw [← hg, hc]; rfl
  have e93 : (((x[0]'h0).toNat : Int) == 93) = false := by rw [← hg, hc]; rfl
  have e123 : (((x[0]'h0).toNat : Int) == 123) = false := by rw [← hg, hc]; rfl
  have e124 : (((x[0]'h0).toNat : Int) == 124) = true := by rw [← hg, hc]; rfl
  have KF : Hid (∀ W, LV W → Calls Tryz.prog 36 #[.int .i64 1, .string (x.extract 0 1), .bool true] W (FsP F W)) := Lib.hid (fun W _ => by rw [hF0]; exact as_any 1 (x.extract 0 1) true (by rw [ByteArray.size_extract]; omega) W)
  clear hF0
  clear h hg hc
  go_enter Tryz.func22, Tryz.ntmps22
  go_wp2_with fail
  generalize w.alloc zT = w0 at HR HB0 HS0 ⊢
  have HLV0 := Lib.hid (HLV.out.go HB0.out)
  have HS0L := Lib.hid (show w.heap.size < w0.heap.size by rw [HS0.out]; omega)
  refine (KF.out w0 HLV0.out).mono ?_
  rintro e wF ⟨hF, hb⟩
  obtain ⟨k, t, n, b, rfl⟩ := fsR_shape hF
  have HF := Lib.hid hF
  have HRF := Lib.hid (row_blk HR.out (hb.block _ HS0L.out))
  have HBF := Lib.hid (HB0.out.trans (hb.mono (Nat.le_of_lt HS0L.out)))
  clear hF hb KF
  have z0 := HRF.out.cell (show 0 < 3 by decide)
  have z1 := HRF.out.cell (show 1 < 3 by decide)
  have z2 := HRF.out.cell (show 2 < 3 by decide)
  have g0 := HRF.out.frozen 0
  have g1 := HRF.out.frozen 1
  have g2 := HRF.out.frozen 2
  simp only [t3, List.getD_cons_succ, List.getD_cons_zero] at z0 z1 z2
  go_wp2_with fail
  refine bodyPost_ret (v := .tuple #[.agg #[.int .i64 k, .string t, .int .i64 0], .int .i64 n, .bool b]) (by simp [results, Tryz.results22, go_sem, z0, z1, z2]; try rfl) rfl ?_
  exact ⟨HF.out, resT_below HBF.out (Nat.le_refl _)⟩
set_option maxHeartbeats 2000000 in
set_option maxRecDepth 100000 in
theorem fst_s125 (x : ByteArray) (hs : x.size ≤ 1000000) (w : World) (h : LV w) (h0 : 0 < x.size) (hc : (x.get! 0).toNat = 125) (F : Fst) (hF0 : F = asF 1 (x.extract 0 1) true) : Calls Tryz.prog 22 #[.string x] w (FsP F w) := by
  have HLV := Lib.hid h
  have HR := Lib.hid (row3 (heap_alloc_new w (zT)))
  have HB0 := Lib.hid ((Below.refl w.heap.size w).alloc (Nat.le_refl _) zT)
  have HS0 := Lib.hid (show (w.alloc zT).heap.size = w.heap.size + 1 by simp)
  have h63 : decide ((x.size : Int) < 1) = false := decide_eq_false (by omega)
  have hne : x.toList.isEmpty = false := by
    rw [Lib.toList_data]
    cases hq : x.data.toList with
    | nil => rw [Lib.size_eq, hq] at h0; simp at h0
    | cons _ _ => rfl
  have hxx : (x.toList == ([] : List UInt8)) = false := by
    rw [Lib.toList_data]
    cases hq : x.data.toList with
    | nil => rw [Lib.size_eq, hq] at h0; simp at h0
    | cons _ _ => rfl
  have hg := get_bang x 0 h0
  have e33 : (((x[0]'h0).toNat : Int) == 33) = false := by rw [← hg, hc]; rfl
  have e36 : (((x[0]'h0).toNat : Int) == 36) = false := by rw [← hg, hc]; rfl
  have e38 : (((x[0]'h0).toNat : Int) == 38) = false := by rw [← hg, hc]; rfl
  have e40 : (((x[0]'h0).toNat : Int) == 40) = false := by rw [← hg, hc]; rfl
  have e41 : (((x[0]'h0).toNat : Int) == 41) = false := by rw [← hg, hc]; rfl
  have e58 : (((x[0]'h0).toNat : Int) == 58) = false := by rw [← hg, hc]; rfl
  have e61 : (((x[0]'h0).toNat : Int) == 61) = false := by rw [← hg, hc]; rfl
  have e64 : (((x[0]'h0).toNat : Int) == 64) = false := by rw [← hg, hc]; rfl
  have e91 : (((x[0]'h0).toNat : Int) == 91) = false := by rw [← hg, hc]; rfl
  have e93 : (((x[0]'h0).toNat : Int) == 93) = false := by rw [← hg, hc]; rfl
  have e123 : (((x[0]'h0).toNat : Int) == 123) = false := by rw [← hg, hc]; rfl
  have e124 : (((x[0]'h0).toNat : Int) == 124) = false := by rw [← hg, hc]; rfl
  have e125 : (((x[0]'h0).toNat : Int) == 125) = true := by rw [← hg, hc]; rfl
  have KF : Hid (∀ W, LV W → Calls Tryz.prog 36 #[.int .i64 1, .string (x.extract 0 1), .bool true] W (FsP F W)) := Lib.hid (fun W _ => by rw [hF0]; exact as_any 1 (x.extract 0 1) true (by rw [ByteArray.size_extract]; omega) W)
  clear hF0
  clear h hg hc
  go_enter Tryz.func22, Tryz.ntmps22
  go_wp2_with fail
  generalize w.alloc zT = w0 at HR HB0 HS0 ⊢
  have HLV0 := Lib.hid (HLV.out.go HB0.out)
  have HS0L := Lib.hid (show w.heap.size < w0.heap.size by rw [HS0.out]; omega)
  refine (KF.out w0 HLV0.out).mono ?_
  rintro e wF ⟨hF, hb⟩
  obtain ⟨k, t, n, b, rfl⟩ := fsR_shape hF
  have HF := Lib.hid hF
  have HRF := Lib.hid (row_blk HR.out (hb.block _ HS0L.out))
  have HBF := Lib.hid (HB0.out.trans (hb.mono (Nat.le_of_lt HS0L.out)))
  clear hF hb KF
  have z0 := HRF.out.cell (show 0 < 3 by decide)
  have z1 := HRF.out.cell (show 1 < 3 by decide)
  have z2 := HRF.out.cell (show 2 < 3 by decide)
  have g0 := HRF.out.frozen 0
  have g1 := HRF.out.frozen 1
  have g2 := HRF.out.frozen 2
  simp only [t3, List.getD_cons_succ, List.getD_cons_zero] at z0 z1 z2
  go_wp2_with fail
  refine bodyPost_ret (v := .tuple #[.agg #[.int .i64 k, .string t, .int .i64 0], .int .i64 n, .bool b]) (by simp [results, Tryz.results22, go_sem, z0, z1, z2]; try rfl) rfl ?_
  exact ⟨HF.out, resT_below HBF.out (Nat.le_refl _)⟩
end Go.Proofs.YtejniiehfangkaaGreatDoor
