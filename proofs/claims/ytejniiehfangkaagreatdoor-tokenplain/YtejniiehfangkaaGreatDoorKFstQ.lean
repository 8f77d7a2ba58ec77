/- What stands first: token.first, walked: strings. -/
import Derived.Test.YtejniiehfangkaaGreatDoorKFstA
set_option linter.unusedVariables false
set_option linter.unusedSimpArgs false
namespace Go.Proofs.YtejniiehfangkaaGreatDoor
open Go.RowKit
set_option maxHeartbeats 2000000 in
set_option maxRecDepth 100000 in
theorem fst_r (x : ByteArray) (hs : x.size ≤ 1000000) (w : World) (h : LV w) (h0 : 0 < x.size) (hc : (x.get! 0).toNat = 34) (h3 : rw3 x.data.toList = true) (F : Fst) (hF0 : F = rawL x.data.toList) : Calls Tryz.prog 22 #[.string x] w (FsP F w) := by
  have HLV := Lib.hid h
  have HR := Lib.hid (row3 (heap_alloc_new w (zT)))
  have HB0 := Lib.hid ((Below.refl w.heap.size w).alloc (Nat.le_refl _) zT)
  have HS0 := Lib.hid (show (w.alloc zT).heap.size = w.heap.size + 1 by simp)
  have h63 : decide ((x.size : Int) < 1) = false := decide_eq_false (by omega)
  have hne : x.toList.isEmpty = false := by
    rw [Lib.toList_data]
    cases hq : x.data.toList with
    | nil => rw [Lib.size_eq, hq] at h0; simp at h0
    | cons _ _ => rfl
  have hxx : (x.toList == ([] : List UInt8)) = false := by
    rw [Lib.toList_data]
    cases hq : x.data.toList with
    | nil => rw [Lib.size_eq, hq] at h0; simp at h0
    | cons _ _ => rfl
  have hg := get_bang x 0 h0
  have e33 : (((x[0]'h0).toNat : Int) == 33) = false := by rw [← hg, hc]; rfl
  have e36 : (((x[0]'h0).toNat : Int) == 36) = false := by rw [← hg, hc]; rfl
  have e38 : (((x[0]'h0).toNat : Int) == 38) = false := by rw [← hg, hc]; rfl
  have e40 : (((x[0]'h0).toNat : Int) == 40) = false := by rw [← hg, hc]; rfl
  have e41 : (((x[0]'h0).toNat : Int) == 41) = false := by rw [← hg, hc]; rfl
  have e58 : (((x[0]'h0).toNat : Int) == 58) = false := by rw [← hg, hc]; rfl
  have e61 : (((x[0]'h0).toNat : Int) == 61) = false := by rw [← hg, hc]; rfl
  have e64 : (((x[0]'h0).toNat : Int) == 64) = false := by rw [← hg, hc]; rfl
  have e91 : (((x[0]'h0).toNat : Int) == 91) = false := by rw [← hg, hc]; rfl
  have e93 : (((x[0]'h0).toNat : Int) == 93) = false := by rw [← hg, hc]; rfl
  have e123 : (((x[0]'h0).toNat : Int) == 123) = false := by rw [← hg, hc]; rfl
  have e124 : (((x[0]'h0).toNat : Int) == 124) = false := by rw [← hg, hc]; rfl
  have e125 : (((x[0]'h0).toNat : Int) == 125) = false := by rw [← hg, hc]; rfl
  have e46 : (((x[0]'h0).toNat : Int) == 46) = false := by rw [← hg, hc]; rfl
  have e45 : (((x[0]'h0).toNat : Int) == 45) = false := by rw [← hg, hc]; rfl
  have e48 : (((x[0]'h0).toNat : Int) == 48) = false := by rw [← hg, hc]; rfl
  have e49 : (((x[0]'h0).toNat : Int) == 49) = false := by rw [← hg, hc]; rfl
  have e50 : (((x[0]'h0).toNat : Int) == 50) = false := by rw [← hg, hc]; rfl
  have e51 : (((x[0]'h0).toNat : Int) == 51) = false := by rw [← hg, hc]; rfl
  have e52 : (((x[0]'h0).toNat : Int) == 52) = false := by rw [← hg, hc]; rfl
  have e53 : (((x[0]'h0).toNat : Int) == 53) = false := by rw [← hg, hc]; rfl
  have e54 : (((x[0]'h0).toNat : Int) == 54) = false := by rw [← hg, hc]; rfl
  have e55 : (((x[0]'h0).toNat : Int) == 55) = false := by rw [← hg, hc]; rfl
  have e56 : (((x[0]'h0).toNat : Int) == 56) = false := by rw [← hg, hc]; rfl
  have e57 : (((x[0]'h0).toNat : Int) == 57) = false := by rw [← hg, hc]; rfl
  have e34 : (((x[0]'h0).toNat : Int) == 34) = true := by rw [← hg, hc]; rfl
  have KP : Hid (∀ W, Calls Tryz.prog 37 #[.string x, .string ⟨#[34, 34, 34]⟩] W fun e w' => e = .returned (.bool true) ∧ W = w') := Lib.hid (fun W => (prefix_any x ⟨#[34, 34, 34]⟩ W).mono (by rintro e w' ⟨rfl, rfl⟩; exact ⟨ret_bool h3, rfl⟩))
  have KF : Hid (∀ W, LV W → Calls Tryz.prog 39 #[.string x] W (FsP F W)) := Lib.hid (fun W hW => by rw [hF0]; exact raw_any x h3 hs W hW)
  clear h3 hF0
  clear h hg hc
  go_enter Tryz.func22, Tryz.ntmps22
  go_wp2_with fail
  generalize w.alloc zT = w0 at HR HB0 HS0 ⊢
  have HLV0 := Lib.hid (HLV.out.go HB0.out)
  have HS0L := Lib.hid (show w.heap.size < w0.heap.size by rw [HS0.out]; omega)
  refine (KP.out w0).mono ?_
  rintro e w1 ⟨rfl, rfl⟩
  clear KP
  go_wp2_with fail
  refine (KF.out w0 HLV0.out).mono ?_
  rintro e wF ⟨hF, hb⟩
  obtain ⟨k, t, n, b, rfl⟩ := fsR_shape hF
  have HF := Lib.hid hF
  have HRF := Lib.hid (row_blk HR.out (hb.block _ HS0L.out))
  have HBF := Lib.hid (HB0.out.trans (hb.mono (Nat.le_of_lt HS0L.out)))
  clear hF hb KF
  have z0 := HRF.out.cell (show 0 < 3 by decide)
  have z1 := HRF.out.cell (show 1 < 3 by decide)
  have z2 := HRF.out.cell (show 2 < 3 by decide)
  have g0 := HRF.out.frozen 0
  have g1 := HRF.out.frozen 1
  have g2 := HRF.out.frozen 2
  simp only [t3, List.getD_cons_succ, List.getD_cons_zero] at z0 z1 z2
  go_wp2_with fail
  refine bodyPost_ret (v := .tuple #[.agg #[.int .i64 k, .string t, .int .i64 0], .int .i64 n, .bool b]) (by simp [results, Tryz.results22, go_sem, z0, z1, z2]; try rfl) rfl ?_
  exact ⟨HF.out, resT_below HBF.out (Nat.le_refl _)⟩
set_option maxHeartbeats 2000000 in
set_option maxRecDepth 100000 in
theorem fst_qt (x : ByteArray) (hs : x.size ≤ 1000000) (w : World) (h : LV w) (h0 : 0 < x.size) (hc : (x.get! 0).toNat = 34) (h3 : rw3 x.data.toList = false) (U : ByteArray) (n : Nat) (er : Int) (hU : unqE x = .returned (.tuple #[.string U, .int .i64 (n : Nat), .int .i64 er])) (hz : (er == 0) = true) (F : Fst) (hF0 : F = .ok 4 U.data.toList n) : Calls Tryz.prog 22 #[.string x] w (FsP F w) := by
  have HLV := Lib.hid h
  have HR := Lib.hid (row3 (heap_alloc_new w (zT)))
  have HB0 := Lib.hid ((Below.refl w.heap.size w).alloc (Nat.le_refl _) zT)
  have HS0 := Lib.hid (show (w.alloc zT).heap.size = w.heap.size + 1 by simp)
  have h63 : decide ((x.size : Int) < 1) = false := decide_eq_false (by omega)
  have hne : x.toList.isEmpty = false := by
    rw [Lib.toList_data]
    cases hq : x.data.toList with
    | nil => rw [Lib.size_eq, hq] at h0; simp at h0
    | cons _ _ => rfl
  have hxx : (x.toList == ([] : List UInt8)) = false := by
    rw [Lib.toList_data]
    cases hq : x.data.toList with
    | nil => rw [Lib.size_eq, hq] at h0; simp at h0
    | cons _ _ => rfl
  have hg := get_bang x 0 h0
  have e33 : (((x[0]'h0).toNat : Int) == 33) = false := by rw [← hg, hc]; rfl
  have e36 : (((x[0]'h0).toNat : Int) == 36) = false := by rw [← hg, hc]; rfl
  have e38 : (((x[0]'h0).toNat : Int) == 38) = false := by rw [← hg, hc]; rfl
  have e40 : (((x[0]'h0).toNat : Int) == 40) = false := by rw [← hg, hc]; rfl
  have e41 : (((x[0]'h0).toNat : Int) == 41) = false := by rw [← hg, hc]; rfl
  have e58 : (((x[0]'h0).toNat : Int) == 58) = false := by rw [← hg, hc]; rfl
  have e61 : (((x[0]'h0).toNat : Int) == 61) = false := by rw [← hg, hc]; rfl
  have e64 : (((x[0]'h0).toNat : Int) == 64) = false := by rw [← hg, hc]; rfl
  have e91 : (((x[0]'h0).toNat : Int) == 91) = false := by rw [← hg, hc]; rfl
  have e93 : (((x[0]'h0).toNat : Int) == 93) = false := by rw [← hg, hc]; rfl
  have e123 : (((x[0]'h0).toNat : Int) == 123) = false := by rw [← hg, hc]; rfl
  have e124 : (((x[0]'h0).toNat : Int) == 124) = false := by rw [← hg, hc]; rfl
  have e125 : (((x[0]'h0).toNat : Int) == 125) = false := by rw [← hg, hc]; rfl
  have e46 : (((x[0]'h0).toNat : Int) == 46) = false := by rw [← hg, hc]; rfl
  have e45 : (((x[0]'h0).toNat : Int) == 45) = false := by rw [← hg, hc]; rfl
  have e48 : (((x[0]'h0).toNat : Int) == 48) = false := by rw [← hg, hc]; rfl
  have e49 : (((x[0]'h0).toNat : Int) == 49) = false := by rw [← hg, hc]; rfl
  have e50 : (((x[0]'h0).toNat : Int) == 50) = false := by rw [← hg, hc]; rfl
  have e51 : (((x[0]'h0).toNat : Int) == 51) = false := by rw [← hg, hc]; rfl
  have e52 : (((x[0]'h0).toNat : Int) == 52) = false := by rw [← hg, hc]; rfl
  have e53 : (((x[0]'h0).toNat : Int) == 53) = false := by rw [← hg, hc]; rfl
  have e54 : (((x[0]'h0).toNat : Int) == 54) = false := by rw [← hg, hc]; rfl
  have e55 : (((x[0]'h0).toNat : Int) == 55) = false := by rw [← hg, hc]; rfl
  have e56 : (((x[0]'h0).toNat : Int) == 56) = false := by rw [← hg, hc]; rfl
  have e57 : (((x[0]'h0).toNat : Int) == 57) = false := by rw [← hg, hc]; rfl
  have e34 : (((x[0]'h0).toNat : Int) == 34) = true := by rw [← hg, hc]; rfl
  have KP : Hid (∀ W, Calls Tryz.prog 37 #[.string x, .string ⟨#[34, 34, 34]⟩] W fun e w' => e = .returned (.bool false) ∧ W = w') := Lib.hid (fun W => (prefix_any x ⟨#[34, 34, 34]⟩ W).mono (by rintro e w' ⟨rfl, rfl⟩; exact ⟨ret_bool h3, rfl⟩))
  have KU : Hid (∀ W, LV W → Calls Tryz.prog 40 #[.string x] W fun e w' => e = .returned (.tuple #[.string U, .int .i64 (n : Nat), .int .i64 er]) ∧ Below W.heap.size W w') := Lib.hid (fun W hW => by rw [← hU]; exact unq_any x (by omega) W hW.both.2)
  have HF0 := Lib.hid hF0
  clear h3 hU hF0
  clear h hg hc
  go_enter Tryz.func22, Tryz.ntmps22
  go_wp2_with fail
  generalize w.alloc zT = w0 at HR HB0 HS0 ⊢
  have HLV0 := Lib.hid (HLV.out.go HB0.out)
  have HS0L := Lib.hid (show w.heap.size < w0.heap.size by rw [HS0.out]; omega)
  refine (KP.out w0).mono ?_
  rintro e w1 ⟨rfl, rfl⟩
  clear KP
  go_wp2_with fail
  refine (KU.out w0 HLV0.out).mono ?_
  rintro e wF ⟨rfl, hb⟩
  have HRF := Lib.hid (row_blk HR.out (hb.block _ HS0L.out))
  have HBF := Lib.hid (HB0.out.trans (hb.mono (Nat.le_of_lt HS0L.out)))
  clear hb KU
  have z0 := HRF.out.cell (show 0 < 3 by decide)
  have z1 := HRF.out.cell (show 1 < 3 by decide)
  have z2 := HRF.out.cell (show 2 < 3 by decide)
  have g0 := HRF.out.frozen 0
  have g1 := HRF.out.frozen 1
  have g2 := HRF.out.frozen 2
  simp only [t3, List.getD_cons_succ, List.getD_cons_zero] at z0 z1 z2
  go_wp2_with fail
  refine bodyPost_ret (v := .tuple #[.agg #[.int .i64 4, .string U, .int .i64 0], .int .i64 n, .bool true]) (by simp [results, Tryz.results22, go_sem, z0, z1, z2]; try rfl) rfl ?_
  rw [HF0.out]
  exact ⟨rfl, resT_below HBF.out (Nat.le_refl _)⟩
set_option maxHeartbeats 2000000 in
set_option maxRecDepth 100000 in
theorem fst_qf (x : ByteArray) (hs : x.size ≤ 1000000) (w : World) (h : LV w) (h0 : 0 < x.size) (hc : (x.get! 0).toNat = 34) (h3 : rw3 x.data.toList = false) (U : ByteArray) (n : Nat) (er : Int) (hU : unqE x = .returned (.tuple #[.string U, .int .i64 (n : Nat), .int .i64 er])) (hz : (er == 0) = false) (F : Fst) (hF0 : F = .no n) : Calls Tryz.prog 22 #[.string x] w (FsP F w) := by
  have HLV := Lib.hid h
  have HR := Lib.hid (row3 (heap_alloc_new w (zT)))
  have HB0 := Lib.hid ((Below.refl w.heap.size w).alloc (Nat.le_refl _) zT)
  have HS0 := Lib.hid (show (w.alloc zT).heap.size = w.heap.size + 1 by simp)
  have h63 : decide ((x.size : Int) < 1) = false := decide_eq_false (by omega)
  have hne : x.toList.isEmpty = false := by
    rw [Lib.toList_data]
    cases hq : x.data.toList with
    | nil => rw [Lib.size_eq, hq] at h0; simp at h0
    | cons _ _ => rfl
  have hxx : (x.toList == ([] : List UInt8)) = false := by
    rw [Lib.toList_data]
    cases hq : x.data.toList with
    | nil => rw [Lib.size_eq, hq] at h0; simp at h0
    | cons _ _ => rfl
  have hg := get_bang x 0 h0
  have e33 : (((x[0]'h0).toNat : Int) == 33) = false := by rw [← hg, hc]; rfl
  have e36 : (((x[0]'h0).toNat : Int) == 36) = false := by rw [← hg, hc]; rfl
  have e38 : (((x[0]'h0).toNat : Int) == 38) = false := by rw [← hg, hc]; rfl
  have e40 : (((x[0]'h0).toNat : Int) == 40) = false := by rw [← hg, hc]; rfl
  have e41 : (((x[0]'h0).toNat : Int) == 41) = false := by rw [← hg, hc]; rfl
  have e58 : (((x[0]'h0).toNat : Int) == 58) = false := by rw [← hg, hc]; rfl
  have e61 : (((x[0]'h0).toNat : Int) == 61) = false := by rw [← hg, hc]; rfl
  have e64 : (((x[0]'h0).toNat : Int) == 64) = false := by rw [← hg, hc]; rfl
  have e91 : (((x[0]'h0).toNat : Int) == 91) = false := by rw [← hg, hc]; rfl
  have e93 : (((x[0]'h0).toNat : Int) == 93) = false := by rw [← hg, hc]; rfl
  have e123 : (((x[0]'h0).toNat : Int) == 123) = false := by rw [← hg, hc]; rfl
  have e124 : (((x[0]'h0).toNat : Int) == 124) = false := by rw [← hg, hc]; rfl
  have e125 : (((x[0]'h0).toNat : Int) == 125) = false := by rw [← hg, hc]; rfl
  have e46 : (((x[0]'h0).toNat : Int) == 46) = false := by rw [← hg, hc]; rfl
  have e45 : (((x[0]'h0).toNat : Int) == 45) = false := by rw [← hg, hc]; rfl
  have e48 : (((x[0]'h0).toNat : Int) == 48) = false := by rw [← hg, hc]; rfl
  have e49 : (((x[0]'h0).toNat : Int) == 49) = false := by rw [← hg, hc]; rfl
  have e50 : (((x[0]'h0).toNat : Int) == 50) = false := by rw [← hg, hc]; rfl
  have e51 : (((x[0]'h0).toNat : Int) == 51) = false := by rw [← hg, hc]; rfl
  have e52 : (((x[0]'h0).toNat : Int) == 52) = false := by rw [← hg, hc]; rfl
  have e53 : (((x[0]'h0).toNat : Int) == 53) = false := by rw [← hg, hc]; rfl
  have e54 : (((x[0]'h0).toNat : Int) == 54) = false := by rw [← hg, hc]; rfl
  have e55 : (((x[0]'h0).toNat : Int) == 55) = false := by rw [← hg, hc]; rfl
  have e56 : (((x[0]'h0).toNat : Int) == 56) = false := by rw [← hg, hc]; rfl
  have e57 : (((x[0]'h0).toNat : Int) == 57) = false := by rw [← hg, hc]; rfl
  have e34 : (((x[0]'h0).toNat : Int) == 34) = true := by rw [← hg, hc]; rfl
  have KP : Hid (∀ W, Calls Tryz.prog 37 #[.string x, .string ⟨#[34, 34, 34]⟩] W fun e w' => e = .returned (.bool false) ∧ W = w') := Lib.hid (fun W => (prefix_any x ⟨#[34, 34, 34]⟩ W).mono (by rintro e w' ⟨rfl, rfl⟩; exact ⟨ret_bool h3, rfl⟩))
  have KU : Hid (∀ W, LV W → Calls Tryz.prog 40 #[.string x] W fun e w' => e = .returned (.tuple #[.string U, .int .i64 (n : Nat), .int .i64 er]) ∧ Below W.heap.size W w') := Lib.hid (fun W hW => by rw [← hU]; exact unq_any x (by omega) W hW.both.2)
  have HF0 := Lib.hid hF0
  clear h3 hU hF0
  clear h hg hc
  go_enter Tryz.func22, Tryz.ntmps22
  go_wp2_with fail
  generalize w.alloc zT = w0 at HR HB0 HS0 ⊢
  have HLV0 := Lib.hid (HLV.out.go HB0.out)
  have HS0L := Lib.hid (show w.heap.size < w0.heap.size by rw [HS0.out]; omega)
  refine (KP.out w0).mono ?_
  rintro e w1 ⟨rfl, rfl⟩
  clear KP
  go_wp2_with fail
  refine (KU.out w0 HLV0.out).mono ?_
  rintro e wF ⟨rfl, hb⟩
  have HRF := Lib.hid (row_blk HR.out (hb.block _ HS0L.out))
  have HBF := Lib.hid (HB0.out.trans (hb.mono (Nat.le_of_lt HS0L.out)))
  clear hb KU
  have z0 := HRF.out.cell (show 0 < 3 by decide)
  have z1 := HRF.out.cell (show 1 < 3 by decide)
  have z2 := HRF.out.cell (show 2 < 3 by decide)
  have g0 := HRF.out.frozen 0
  have g1 := HRF.out.frozen 1
  have g2 := HRF.out.frozen 2
  simp only [t3, List.getD_cons_succ, List.getD_cons_zero] at z0 z1 z2
  go_wp2_with fail
  refine bodyPost_ret (v := .tuple #[.agg #[.int .i64 4, .string U, .int .i64 0], .int .i64 n, .bool false]) (by simp [results, Tryz.results22, go_sem, z0, z1, z2]; try rfl) rfl ?_
  rw [HF0.out]
  exact ⟨⟨4, U, rfl⟩, resT_below HBF.out (Nat.le_refl _)⟩
end Go.Proofs.YtejniiehfangkaaGreatDoor
