/- Numbers among tokens: token.number, walked. -/
import Derived.Test.YtejniiehfangkaaGreatDoorKNb
set_option linter.unusedVariables false
set_option linter.unusedSimpArgs false
namespace Go.Proofs.YtejniiehfangkaaGreatDoor
open Go.RowKit
set_option maxHeartbeats 2000000 in
set_option maxRecDepth 100000 in
theorem number_bad_z (x : ByteArray) (hs : x.size ≤ 1000000) (w : World) (h : LV w) (A X2 D0 : ByteArray) (hA : A = x.extract 0 (tk mnB x.data.toList)) (hX : X2 = x.extract (tk mnB x.data.toList) x.size) (hD : D0 = X2.extract 0 (tk dgB X2.data.toList)) (hAs : A.size ≤ 1000000) (hXs : X2.size ≤ 1000000) (hDs : D0.size ≤ 1000000)
    (P : ByteArray) (hPD : A ++ ⟨#[48]⟩ = P) (hsz : P.size ≤ 1000000) (hh : Lib.hasPrefix D0.data.toList [48] = true) (hn : numL x.data.toList = .no 0) (hP : ∀ e, PiR P.data.toList e → ∃ (v : Int) (te : TypeId) (pe : Value), e = .returned (.tuple #[.int .i64 v, .iface te pe])) : Calls Tryz.prog 38 #[.string x] w fun e w' => NbR (numL x.data.toList) e ∧ Below w.heap.size w w' := by
  have HN := Lib.hid hn
  have HPD := Lib.hid hPD
  clear hPD
  have KI : Hid (∀ W, LV W → Calls Tryz.prog 58 #[.string P, .int .i64 10, .int .i64 64] W fun e w' => (∃ (v : Int) (te : TypeId) (pe : Value), e = .returned (.tuple #[.int .i64 v, .iface te pe])) ∧ Below W.heap.size W w') := Lib.hid (fun W hW => (parseInt_any P hsz W hW).mono (fun e w' q => ⟨hP e q.1, q.2⟩))
  clear hn hP
  have HLV := Lib.hid h
  have HB0 := Lib.hid ((Below.refl w.heap.size w).alloc (Nat.le_refl _) (.cells #[.string x] 9))
  have HR0 := Lib.hid (show One (w.alloc (.cells #[.string x] 9)) w.heap.size 9 (.string x) from heap_alloc_new w _)
  have KA : Hid (∀ W, One W w.heap.size 9 (.string x) → Calls Tryz.prog 53 #[.func (.func 57) #[] #[], .pointer (some ⟨w.heap.size, 0, none⟩)] W fun e w' => e = .returned (.string A) ∧ One w' w.heap.size 9 (.string X2) ∧ Kp w.heap.size W w') := Lib.hid (fun W hW => by rw [hA, hX]; exact take_mn x _ W hW hs)
  have KD : Hid (∀ W, One W w.heap.size 9 (.string X2) → Calls Tryz.prog 53 #[.func (.func 54) #[] #[], .pointer (some ⟨w.heap.size, 0, none⟩)] W fun e w' => e = .returned (.string D0) ∧ Kp w.heap.size W w') := Lib.hid (fun W hW => by rw [hD]; exact (take_dg X2 _ W hW hXs).mono (fun _ _ q => ⟨q.1, q.2.2⟩))
  have KP0 : Hid (∀ W, Calls Tryz.prog 37 #[.string D0, .string ⟨#[48]⟩] W fun e w' => e = .returned (.bool true) ∧ W = w') := Lib.hid (fun W => (prefix_any D0 ⟨#[48]⟩ W).mono (by rintro e w' ⟨rfl, rfl⟩; exact ⟨ret_bool hh, rfl⟩))
  clear h hA hX hD hh
  go_enter Tryz.func38, Tryz.ntmps38
  go_wp2_with fail
  refine (taker_any x w).mono ?_
  rintro e w1 ⟨rfl, rfl⟩
  generalize w.alloc (.cells #[.string x] 9) = w1 at HB0 HR0 ⊢
  go_wp2_with fail
  refine (KA.out _ HR0.out).mono ?_
  rintro e w2 ⟨rfl, hR, hk⟩
  have HR2 := Lib.hid hR
  have HB2 := Lib.hid (HB0.out.trans hk.bel)
  clear hR hk KA
  go_wp2_with fail
  refine (KD.out _ HR2.out).mono ?_
  rintro e w3 ⟨rfl, hk⟩
  have HB3 := Lib.hid (HB2.out.trans hk.bel)
  have HLV3 := Lib.hid (HLV.out.go HB3.out)
  clear hk KD HB2 HR2
  go_wp2_with fail
  refine (KP0.out w3).mono ?_
  rintro e w4 ⟨rfl, rfl⟩
  clear KP0
  go_wp2_with fail
  rw [HPD.out]
  refine (KI.out w3 HLV3.out).mono ?_
  rintro e w5 ⟨⟨v, te, pe, rfl⟩, hb5⟩
  go_wp2_with fail
  go_ret2
  exact ⟨by rw [HN.out]; rfl, HB3.out.trans (hb5.mono HB3.out.size)⟩
set_option maxHeartbeats 2000000 in
set_option maxRecDepth 100000 in
theorem number_lo_z (x : ByteArray) (hs : x.size ≤ 1000000) (w : World) (h : LV w) (A X2 D0 : ByteArray) (hA : A = x.extract 0 (tk mnB x.data.toList)) (hX : X2 = x.extract (tk mnB x.data.toList) x.size) (hD : D0 = X2.extract 0 (tk dgB X2.data.toList)) (hAs : A.size ≤ 1000000) (hXs : X2.size ≤ 1000000) (hDs : D0.size ≤ 1000000)
    (P : ByteArray) (hPD : A ++ ⟨#[48]⟩ = P) (hsz : P.size ≤ 1000000) (hh : Lib.hasPrefix D0.data.toList [48] = true) (v : Int) (N : Nat) (hn : numL x.data.toList = .no 0) (hP : Lib.parseIntB 64 P.data.toList = .ok v) (h1 : decide (v < -9007199254740991) = true) : Calls Tryz.prog 38 #[.string x] w fun e w' => NbR (numL x.data.toList) e ∧ Below w.heap.size w w' := by
  have HN := Lib.hid hn
  have HPD := Lib.hid hPD
  clear hPD
  have KI : Hid (∀ W, LV W → Calls Tryz.prog 58 #[.string P, .int .i64 10, .int .i64 64] W fun e w' => e = .returned (.tuple #[.int .i64 v, .nilIface]) ∧ Below W.heap.size W w') := Lib.hid (fun W hW => (parseInt_any P hsz W hW).mono (fun e w' q => ⟨by have := q.1; unfold PiR at this; rw [hP] at this; exact this, q.2⟩))
  clear hn hP
  have HLV := Lib.hid h
  have HB0 := Lib.hid ((Below.refl w.heap.size w).alloc (Nat.le_refl _) (.cells #[.string x] 9))
  have HR0 := Lib.hid (show One (w.alloc (.cells #[.string x] 9)) w.heap.size 9 (.string x) from heap_alloc_new w _)
  have KA : Hid (∀ W, One W w.heap.size 9 (.string x) → Calls Tryz.prog 53 #[.func (.func 57) #[] #[], .pointer (some ⟨w.heap.size, 0, none⟩)] W fun e w' => e = .returned (.string A) ∧ One w' w.heap.size 9 (.string X2) ∧ Kp w.heap.size W w') := Lib.hid (fun W hW => by rw [hA, hX]; exact take_mn x _ W hW hs)
  have KD : Hid (∀ W, One W w.heap.size 9 (.string X2) → Calls Tryz.prog 53 #[.func (.func 54) #[] #[], .pointer (some ⟨w.heap.size, 0, none⟩)] W fun e w' => e = .returned (.string D0) ∧ Kp w.heap.size W w') := Lib.hid (fun W hW => by rw [hD]; exact (take_dg X2 _ W hW hXs).mono (fun _ _ q => ⟨q.1, q.2.2⟩))
  have KP0 : Hid (∀ W, Calls Tryz.prog 37 #[.string D0, .string ⟨#[48]⟩] W fun e w' => e = .returned (.bool true) ∧ W = w') := Lib.hid (fun W => (prefix_any D0 ⟨#[48]⟩ W).mono (by rintro e w' ⟨rfl, rfl⟩; exact ⟨ret_bool hh, rfl⟩))
  clear h hA hX hD hh
  go_enter Tryz.func38, Tryz.ntmps38
  go_wp2_with fail
  refine (taker_any x w).mono ?_
  rintro e w1 ⟨rfl, rfl⟩
  generalize w.alloc (.cells #[.string x] 9) = w1 at HB0 HR0 ⊢
  go_wp2_with fail
  refine (KA.out _ HR0.out).mono ?_
  rintro e w2 ⟨rfl, hR, hk⟩
  have HR2 := Lib.hid hR
  have HB2 := Lib.hid (HB0.out.trans hk.bel)
  clear hR hk KA
  go_wp2_with fail
  refine (KD.out _ HR2.out).mono ?_
  rintro e w3 ⟨rfl, hk⟩
  have HB3 := Lib.hid (HB2.out.trans hk.bel)
  have HLV3 := Lib.hid (HLV.out.go HB3.out)
  clear hk KD HB2 HR2
  go_wp2_with fail
  refine (KP0.out w3).mono ?_
  rintro e w4 ⟨rfl, rfl⟩
  clear KP0
  go_wp2_with fail
  rw [HPD.out]
  refine (KI.out w3 HLV3.out).mono ?_
  rintro e w5 ⟨rfl, hb5⟩
  go_wp2_with fail
  go_ret2
  exact ⟨by rw [HN.out]; rfl, HB3.out.trans (hb5.mono HB3.out.size)⟩
set_option maxHeartbeats 2000000 in
set_option maxRecDepth 100000 in
theorem number_hi_z (x : ByteArray) (hs : x.size ≤ 1000000) (w : World) (h : LV w) (A X2 D0 : ByteArray) (hA : A = x.extract 0 (tk mnB x.data.toList)) (hX : X2 = x.extract (tk mnB x.data.toList) x.size) (hD : D0 = X2.extract 0 (tk dgB X2.data.toList)) (hAs : A.size ≤ 1000000) (hXs : X2.size ≤ 1000000) (hDs : D0.size ≤ 1000000)
    (P : ByteArray) (hPD : A ++ ⟨#[48]⟩ = P) (hsz : P.size ≤ 1000000) (hh : Lib.hasPrefix D0.data.toList [48] = true) (v : Int) (N : Nat) (hn : numL x.data.toList = .no 0) (hP : Lib.parseIntB 64 P.data.toList = .ok v) (h1 : decide (v < -9007199254740991) = false) (h2 : decide (9007199254740991 < v) = true) : Calls Tryz.prog 38 #[.string x] w fun e w' => NbR (numL x.data.toList) e ∧ Below w.heap.size w w' := by
  have HN := Lib.hid hn
  have HPD := Lib.hid hPD
  clear hPD
  have KI : Hid (∀ W, LV W → Calls Tryz.prog 58 #[.string P, .int .i64 10, .int .i64 64] W fun e w' => e = .returned (.tuple #[.int .i64 v, .nilIface]) ∧ Below W.heap.size W w') := Lib.hid (fun W hW => (parseInt_any P hsz W hW).mono (fun e w' q => ⟨by have := q.1; unfold PiR at this; rw [hP] at this; exact this, q.2⟩))
  clear hn hP
  have HLV := Lib.hid h
  have HB0 := Lib.hid ((Below.refl w.heap.size w).alloc (Nat.le_refl _) (.cells #[.string x] 9))
  have HR0 := Lib.hid (show One (w.alloc (.cells #[.string x] 9)) w.heap.size 9 (.string x) from heap_alloc_new w _)
  have KA : Hid (∀ W, One W w.heap.size 9 (.string x) → Calls Tryz.prog 53 #[.func (.func 57) #[] #[], .pointer (some ⟨w.heap.size, 0, none⟩)] W fun e w' => e = .returned (.string A) ∧ One w' w.heap.size 9 (.string X2) ∧ Kp w.heap.size W w') := Lib.hid (fun W hW => by rw [hA, hX]; exact take_mn x _ W hW hs)
  have KD : Hid (∀ W, One W w.heap.size 9 (.string X2) → Calls Tryz.prog 53 #[.func (.func 54) #[] #[], .pointer (some ⟨w.heap.size, 0, none⟩)] W fun e w' => e = .returned (.string D0) ∧ Kp w.heap.size W w') := Lib.hid (fun W hW => by rw [hD]; exact (take_dg X2 _ W hW hXs).mono (fun _ _ q => ⟨q.1, q.2.2⟩))
  have KP0 : Hid (∀ W, Calls Tryz.prog 37 #[.string D0, .string ⟨#[48]⟩] W fun e w' => e = .returned (.bool true) ∧ W = w') := Lib.hid (fun W => (prefix_any D0 ⟨#[48]⟩ W).mono (by rintro e w' ⟨rfl, rfl⟩; exact ⟨ret_bool hh, rfl⟩))
  clear h hA hX hD hh
  go_enter Tryz.func38, Tryz.ntmps38
  go_wp2_with fail
  refine (taker_any x w).mono ?_
  rintro e w1 ⟨rfl, rfl⟩
  generalize w.alloc (.cells #[.string x] 9) = w1 at HB0 HR0 ⊢
  go_wp2_with fail
  refine (KA.out _ HR0.out).mono ?_
  rintro e w2 ⟨rfl, hR, hk⟩
  have HR2 := Lib.hid hR
  have HB2 := Lib.hid (HB0.out.trans hk.bel)
  clear hR hk KA
  go_wp2_with fail
  refine (KD.out _ HR2.out).mono ?_
  rintro e w3 ⟨rfl, hk⟩
  have HB3 := Lib.hid (HB2.out.trans hk.bel)
  have HLV3 := Lib.hid (HLV.out.go HB3.out)
  clear hk KD HB2 HR2
  go_wp2_with fail
  refine (KP0.out w3).mono ?_
  rintro e w4 ⟨rfl, rfl⟩
  clear KP0
  go_wp2_with fail
  rw [HPD.out]
  refine (KI.out w3 HLV3.out).mono ?_
  rintro e w5 ⟨rfl, hb5⟩
  go_wp2_with fail
  go_ret2
  exact ⟨by rw [HN.out]; rfl, HB3.out.trans (hb5.mono HB3.out.size)⟩
set_option maxHeartbeats 2000000 in
set_option maxRecDepth 100000 in
theorem number_nz_z (x : ByteArray) (hs : x.size ≤ 1000000) (w : World) (h : LV w) (A X2 D0 : ByteArray) (hA : A = x.extract 0 (tk mnB x.data.toList)) (hX : X2 = x.extract (tk mnB x.data.toList) x.size) (hD : D0 = X2.extract 0 (tk dgB X2.data.toList)) (hAs : A.size ≤ 1000000) (hXs : X2.size ≤ 1000000) (hDs : D0.size ≤ 1000000)
    (P : ByteArray) (hPD : A ++ ⟨#[48]⟩ = P) (hsz : P.size ≤ 1000000) (hh : Lib.hasPrefix D0.data.toList [48] = true) (v : Int) (N : Nat) (hn : numL x.data.toList = .no 0) (hP : Lib.parseIntB 64 P.data.toList = .ok v) (h1 : decide (v < -9007199254740991) = false) (h2 : decide (9007199254740991 < v) = false) (h3 : (v == 0) = true) (h4 : A.toList.isEmpty = false) : Calls Tryz.prog 38 #[.string x] w fun e w' => NbR (numL x.data.toList) e ∧ Below w.heap.size w w' := by
  have HN := Lib.hid hn
  have HPD := Lib.hid hPD
  clear hPD
  have KI : Hid (∀ W, LV W → Calls Tryz.prog 58 #[.string P, .int .i64 10, .int .i64 64] W fun e w' => e = .returned (.tuple #[.int .i64 v, .nilIface]) ∧ Below W.heap.size W w') := Lib.hid (fun W hW => (parseInt_any P hsz W hW).mono (fun e w' q => ⟨by have := q.1; unfold PiR at this; rw [hP] at this; exact this, q.2⟩))
  clear hn hP
  have HLV := Lib.hid h
  have HB0 := Lib.hid ((Below.refl w.heap.size w).alloc (Nat.le_refl _) (.cells #[.string x] 9))
  have HR0 := Lib.hid (show One (w.alloc (.cells #[.string x] 9)) w.heap.size 9 (.string x) from heap_alloc_new w _)
  have KA : Hid (∀ W, One W w.heap.size 9 (.string x) → Calls Tryz.prog 53 #[.func (.func 57) #[] #[], .pointer (some ⟨w.heap.size, 0, none⟩)] W fun e w' => e = .returned (.string A) ∧ One w' w.heap.size 9 (.string X2) ∧ Kp w.heap.size W w') := Lib.hid (fun W hW => by rw [hA, hX]; exact take_mn x _ W hW hs)
  have KD : Hid (∀ W, One W w.heap.size 9 (.string X2) → Calls Tryz.prog 53 #[.func (.func 54) #[] #[], .pointer (some ⟨w.heap.size, 0, none⟩)] W fun e w' => e = .returned (.string D0) ∧ Kp w.heap.size W w') := Lib.hid (fun W hW => by rw [hD]; exact (take_dg X2 _ W hW hXs).mono (fun _ _ q => ⟨q.1, q.2.2⟩))
  have KP0 : Hid (∀ W, Calls Tryz.prog 37 #[.string D0, .string ⟨#[48]⟩] W fun e w' => e = .returned (.bool true) ∧ W = w') := Lib.hid (fun W => (prefix_any D0 ⟨#[48]⟩ W).mono (by rintro e w' ⟨rfl, rfl⟩; exact ⟨ret_bool hh, rfl⟩))
  clear h hA hX hD hh
  go_enter Tryz.func38, Tryz.ntmps38
  go_wp2_with fail
  refine (taker_any x w).mono ?_
  rintro e w1 ⟨rfl, rfl⟩
  generalize w.alloc (.cells #[.string x] 9) = w1 at HB0 HR0 ⊢
  go_wp2_with fail
  refine (KA.out _ HR0.out).mono ?_
  rintro e w2 ⟨rfl, hR, hk⟩
  have HR2 := Lib.hid hR
  have HB2 := Lib.hid (HB0.out.trans hk.bel)
  clear hR hk KA
  go_wp2_with fail
  refine (KD.out _ HR2.out).mono ?_
  rintro e w3 ⟨rfl, hk⟩
  have HB3 := Lib.hid (HB2.out.trans hk.bel)
  have HLV3 := Lib.hid (HLV.out.go HB3.out)
  clear hk KD HB2 HR2
  go_wp2_with fail
  refine (KP0.out w3).mono ?_
  rintro e w4 ⟨rfl, rfl⟩
  clear KP0
  go_wp2_with fail
  rw [HPD.out]
  refine (KI.out w3 HLV3.out).mono ?_
  rintro e w5 ⟨rfl, hb5⟩
  go_wp2_with fail
  go_ret2
  exact ⟨by rw [HN.out]; rfl, HB3.out.trans (hb5.mono HB3.out.size)⟩
set_option maxHeartbeats 2000000 in
set_option maxRecDepth 100000 in
theorem number_ok0_z (x : ByteArray) (hs : x.size ≤ 1000000) (w : World) (h : LV w) (A X2 D0 : ByteArray) (hA : A = x.extract 0 (tk mnB x.data.toList)) (hX : X2 = x.extract (tk mnB x.data.toList) x.size) (hD : D0 = X2.extract 0 (tk dgB X2.data.toList)) (hAs : A.size ≤ 1000000) (hXs : X2.size ≤ 1000000) (hDs : D0.size ≤ 1000000)
    (P : ByteArray) (hPD : A ++ ⟨#[48]⟩ = P) (hsz : P.size ≤ 1000000) (hh : Lib.hasPrefix D0.data.toList [48] = true) (v : Int) (N : Nat) (hn : numL x.data.toList = .ok 3 P.data.toList N) (hP : Lib.parseIntB 64 P.data.toList = .ok v) (h1 : decide (v < -9007199254740991) = false) (h2 : decide (9007199254740991 < v) = false) (h3 : (v == 0) = true) (h4 : A.toList.isEmpty = true) : Calls Tryz.prog 38 #[.string x] w fun e w' => NbR (numL x.data.toList) e ∧ Below w.heap.size w w' := by
  have HN := Lib.hid hn
  have HPD := Lib.hid hPD
  clear hPD
  have KI : Hid (∀ W, LV W → Calls Tryz.prog 58 #[.string P, .int .i64 10, .int .i64 64] W fun e w' => e = .returned (.tuple #[.int .i64 v, .nilIface]) ∧ Below W.heap.size W w') := Lib.hid (fun W hW => (parseInt_any P hsz W hW).mono (fun e w' q => ⟨by have := q.1; unfold PiR at this; rw [hP] at this; exact this, q.2⟩))
  clear hn hP
  have HLV := Lib.hid h
  have HB0 := Lib.hid ((Below.refl w.heap.size w).alloc (Nat.le_refl _) (.cells #[.string x] 9))
  have HR0 := Lib.hid (show One (w.alloc (.cells #[.string x] 9)) w.heap.size 9 (.string x) from heap_alloc_new w _)
  have KA : Hid (∀ W, One W w.heap.size 9 (.string x) → Calls Tryz.prog 53 #[.func (.func 57) #[] #[], .pointer (some ⟨w.heap.size, 0, none⟩)] W fun e w' => e = .returned (.string A) ∧ One w' w.heap.size 9 (.string X2) ∧ Kp w.heap.size W w') := Lib.hid (fun W hW => by rw [hA, hX]; exact take_mn x _ W hW hs)
  have KD : Hid (∀ W, One W w.heap.size 9 (.string X2) → Calls Tryz.prog 53 #[.func (.func 54) #[] #[], .pointer (some ⟨w.heap.size, 0, none⟩)] W fun e w' => e = .returned (.string D0) ∧ Kp w.heap.size W w') := Lib.hid (fun W hW => by rw [hD]; exact (take_dg X2 _ W hW hXs).mono (fun _ _ q => ⟨q.1, q.2.2⟩))
  have KP0 : Hid (∀ W, Calls Tryz.prog 37 #[.string D0, .string ⟨#[48]⟩] W fun e w' => e = .returned (.bool true) ∧ W = w') := Lib.hid (fun W => (prefix_any D0 ⟨#[48]⟩ W).mono (by rintro e w' ⟨rfl, rfl⟩; exact ⟨ret_bool hh, rfl⟩))
  clear h hA hX hD hh
  go_enter Tryz.func38, Tryz.ntmps38
  go_wp2_with fail
  refine (taker_any x w).mono ?_
  rintro e w1 ⟨rfl, rfl⟩
  generalize w.alloc (.cells #[.string x] 9) = w1 at HB0 HR0 ⊢
  go_wp2_with fail
  refine (KA.out _ HR0.out).mono ?_
  rintro e w2 ⟨rfl, hR, hk⟩
  have HR2 := Lib.hid hR
  have HB2 := Lib.hid (HB0.out.trans hk.bel)
  clear hR hk KA
  go_wp2_with fail
  refine (KD.out _ HR2.out).mono ?_
  rintro e w3 ⟨rfl, hk⟩
  have HB3 := Lib.hid (HB2.out.trans hk.bel)
  have HLV3 := Lib.hid (HLV.out.go HB3.out)
  clear hk KD HB2 HR2
  go_wp2_with fail
  refine (KP0.out w3).mono ?_
  rintro e w4 ⟨rfl, rfl⟩
  clear KP0
  go_wp2_with fail
  rw [HPD.out]
  refine (KI.out w3 HLV3.out).mono ?_
  rintro e w5 ⟨rfl, hb5⟩
  go_wp2_with fail
  go_ret2
  refine ⟨?_, HB3.out.trans (hb5.mono HB3.out.size)⟩
  rw [HN.out]
  show _ = Ending.returned (.tuple #[.string ⟨P.data.toList.toArray⟩, .bool true])
  rw [ba_eq, ← HPD.out]
  rfl
set_option maxHeartbeats 2000000 in
set_option maxRecDepth 100000 in
theorem number_ok1_z (x : ByteArray) (hs : x.size ≤ 1000000) (w : World) (h : LV w) (A X2 D0 : ByteArray) (hA : A = x.extract 0 (tk mnB x.data.toList)) (hX : X2 = x.extract (tk mnB x.data.toList) x.size) (hD : D0 = X2.extract 0 (tk dgB X2.data.toList)) (hAs : A.size ≤ 1000000) (hXs : X2.size ≤ 1000000) (hDs : D0.size ≤ 1000000)
    (P : ByteArray) (hPD : A ++ ⟨#[48]⟩ = P) (hsz : P.size ≤ 1000000) (hh : Lib.hasPrefix D0.data.toList [48] = true) (v : Int) (N : Nat) (hn : numL x.data.toList = .ok 3 P.data.toList N) (hP : Lib.parseIntB 64 P.data.toList = .ok v) (h1 : decide (v < -9007199254740991) = false) (h2 : decide (9007199254740991 < v) = false) (h3 : (v == 0) = false) : Calls Tryz.prog 38 #[.string x] w fun e w' => NbR (numL x.data.toList) e ∧ Below w.heap.size w w' := by
  have HN := Lib.hid hn
  have HPD := Lib.hid hPD
  clear hPD
  have KI : Hid (∀ W, LV W → Calls Tryz.prog 58 #[.string P, .int .i64 10, .int .i64 64] W fun e w' => e = .returned (.tuple #[.int .i64 v, .nilIface]) ∧ Below W.heap.size W w') := Lib.hid (fun W hW => (parseInt_any P hsz W hW).mono (fun e w' q => ⟨by have := q.1; unfold PiR at this; rw [hP] at this; exact this, q.2⟩))
  clear hn hP
  have HLV := Lib.hid h
  have HB0 := Lib.hid ((Below.refl w.heap.size w).alloc (Nat.le_refl _) (.cells #[.string x] 9))
  have HR0 := Lib.hid (show One (w.alloc (.cells #[.string x] 9)) w.heap.size 9 (.string x) from heap_alloc_new w _)
  have KA : Hid (∀ W, One W w.heap.size 9 (.string x) → Calls Tryz.prog 53 #[.func (.func 57) #[] #[], .pointer (some ⟨w.heap.size, 0, none⟩)] W fun e w' => e = .returned (.string A) ∧ One w' w.heap.size 9 (.string X2) ∧ Kp w.heap.size W w') := Lib.hid (fun W hW => by rw [hA, hX]; exact take_mn x _ W hW hs)
  have KD : Hid (∀ W, One W w.heap.size 9 (.string X2) → Calls Tryz.prog 53 #[.func (.func 54) #[] #[], .pointer (some ⟨w.heap.size, 0, none⟩)] W fun e w' => e = .returned (.string D0) ∧ Kp w.heap.size W w') := Lib.hid (fun W hW => by rw [hD]; exact (take_dg X2 _ W hW hXs).mono (fun _ _ q => ⟨q.1, q.2.2⟩))
  have KP0 : Hid (∀ W, Calls Tryz.prog 37 #[.string D0, .string ⟨#[48]⟩] W fun e w' => e = .returned (.bool true) ∧ W = w') := Lib.hid (fun W => (prefix_any D0 ⟨#[48]⟩ W).mono (by rintro e w' ⟨rfl, rfl⟩; exact ⟨ret_bool hh, rfl⟩))
  clear h hA hX hD hh
  go_enter Tryz.func38, Tryz.ntmps38
  go_wp2_with fail
  refine (taker_any x w).mono ?_
  rintro e w1 ⟨rfl, rfl⟩
  generalize w.alloc (.cells #[.string x] 9) = w1 at HB0 HR0 ⊢
  go_wp2_with fail
  refine (KA.out _ HR0.out).mono ?_
  rintro e w2 ⟨rfl, hR, hk⟩
  have HR2 := Lib.hid hR
  have HB2 := Lib.hid (HB0.out.trans hk.bel)
  clear hR hk KA
  go_wp2_with fail
  refine (KD.out _ HR2.out).mono ?_
  rintro e w3 ⟨rfl, hk⟩
  have HB3 := Lib.hid (HB2.out.trans hk.bel)
  have HLV3 := Lib.hid (HLV.out.go HB3.out)
  clear hk KD HB2 HR2
  go_wp2_with fail
  refine (KP0.out w3).mono ?_
  rintro e w4 ⟨rfl, rfl⟩
  clear KP0
  go_wp2_with fail
  rw [HPD.out]
  refine (KI.out w3 HLV3.out).mono ?_
  rintro e w5 ⟨rfl, hb5⟩
  go_wp2_with fail
  go_ret2
  refine ⟨?_, HB3.out.trans (hb5.mono HB3.out.size)⟩
  rw [HN.out]
  show _ = Ending.returned (.tuple #[.string ⟨P.data.toList.toArray⟩, .bool true])
  rw [ba_eq, ← HPD.out]
  rfl
set_option maxHeartbeats 2000000 in
set_option maxRecDepth 100000 in
theorem number_bad_d (x : ByteArray) (hs : x.size ≤ 1000000) (w : World) (h : LV w) (A X2 D0 : ByteArray) (hA : A = x.extract 0 (tk mnB x.data.toList)) (hX : X2 = x.extract (tk mnB x.data.toList) x.size) (hD : D0 = X2.extract 0 (tk dgB X2.data.toList)) (hAs : A.size ≤ 1000000) (hXs : X2.size ≤ 1000000) (hDs : D0.size ≤ 1000000)
    (P : ByteArray) (hPD : A ++ D0 = P) (hsz : P.size ≤ 1000000) (hh : Lib.hasPrefix D0.data.toList [48] = false) (hn : numL x.data.toList = .no 0) (hP : ∀ e, PiR P.data.toList e → ∃ (v : Int) (te : TypeId) (pe : Value), e = .returned (.tuple #[.int .i64 v, .iface te pe])) : Calls Tryz.prog 38 #[.string x] w fun e w' => NbR (numL x.data.toList) e ∧ Below w.heap.size w w' := by
  have HN := Lib.hid hn
  have HPD := Lib.hid hPD
  clear hPD
  have KI : Hid (∀ W, LV W → Calls Tryz.prog 58 #[.string P, .int .i64 10, .int .i64 64] W fun e w' => (∃ (v : Int) (te : TypeId) (pe : Value), e = .returned (.tuple #[.int .i64 v, .iface te pe])) ∧ Below W.heap.size W w') := Lib.hid (fun W hW => (parseInt_any P hsz W hW).mono (fun e w' q => ⟨hP e q.1, q.2⟩))
  clear hn hP
  have HLV := Lib.hid h
  have HB0 := Lib.hid ((Below.refl w.heap.size w).alloc (Nat.le_refl _) (.cells #[.string x] 9))
  have HR0 := Lib.hid (show One (w.alloc (.cells #[.string x] 9)) w.heap.size 9 (.string x) from heap_alloc_new w _)
  have KA : Hid (∀ W, One W w.heap.size 9 (.string x) → Calls Tryz.prog 53 #[.func (.func 57) #[] #[], .pointer (some ⟨w.heap.size, 0, none⟩)] W fun e w' => e = .returned (.string A) ∧ One w' w.heap.size 9 (.string X2) ∧ Kp w.heap.size W w') := Lib.hid (fun W hW => by rw [hA, hX]; exact take_mn x _ W hW hs)
  have KD : Hid (∀ W, One W w.heap.size 9 (.string X2) → Calls Tryz.prog 53 #[.func (.func 54) #[] #[], .pointer (some ⟨w.heap.size, 0, none⟩)] W fun e w' => e = .returned (.string D0) ∧ Kp w.heap.size W w') := Lib.hid (fun W hW => by rw [hD]; exact (take_dg X2 _ W hW hXs).mono (fun _ _ q => ⟨q.1, q.2.2⟩))
  have KP0 : Hid (∀ W, Calls Tryz.prog 37 #[.string D0, .string ⟨#[48]⟩] W fun e w' => e = .returned (.bool false) ∧ W = w') := Lib.hid (fun W => (prefix_any D0 ⟨#[48]⟩ W).mono (by rintro e w' ⟨rfl, rfl⟩; exact ⟨ret_bool hh, rfl⟩))
  clear h hA hX hD hh
  go_enter Tryz.func38, Tryz.ntmps38
  go_wp2_with fail
  refine (taker_any x w).mono ?_
  rintro e w1 ⟨rfl, rfl⟩
  generalize w.alloc (.cells #[.string x] 9) = w1 at HB0 HR0 ⊢
  go_wp2_with fail
  refine (KA.out _ HR0.out).mono ?_
  rintro e w2 ⟨rfl, hR, hk⟩
  have HR2 := Lib.hid hR
  have HB2 := Lib.hid (HB0.out.trans hk.bel)
  clear hR hk KA
  go_wp2_with fail
  refine (KD.out _ HR2.out).mono ?_
  rintro e w3 ⟨rfl, hk⟩
  have HB3 := Lib.hid (HB2.out.trans hk.bel)
  have HLV3 := Lib.hid (HLV.out.go HB3.out)
  clear hk KD HB2 HR2
  go_wp2_with fail
  refine (KP0.out w3).mono ?_
  rintro e w4 ⟨rfl, rfl⟩
  clear KP0
  go_wp2_with fail
  rw [HPD.out]
  refine (KI.out w3 HLV3.out).mono ?_
  rintro e w5 ⟨⟨v, te, pe, rfl⟩, hb5⟩
  go_wp2_with fail
  go_ret2
  exact ⟨by rw [HN.out]; rfl, HB3.out.trans (hb5.mono HB3.out.size)⟩
set_option maxHeartbeats 2000000 in
set_option maxRecDepth 100000 in
theorem number_lo_d (x : ByteArray) (hs : x.size ≤ 1000000) (w : World) (h : LV w) (A X2 D0 : ByteArray) (hA : A = x.extract 0 (tk mnB x.data.toList)) (hX : X2 = x.extract (tk mnB x.data.toList) x.size) (hD : D0 = X2.extract 0 (tk dgB X2.data.toList)) (hAs : A.size ≤ 1000000) (hXs : X2.size ≤ 1000000) (hDs : D0.size ≤ 1000000)
    (P : ByteArray) (hPD : A ++ D0 = P) (hsz : P.size ≤ 1000000) (hh : Lib.hasPrefix D0.data.toList [48] = false) (v : Int) (N : Nat) (hn : numL x.data.toList = .no 0) (hP : Lib.parseIntB 64 P.data.toList = .ok v) (h1 : decide (v < -9007199254740991) = true) : Calls Tryz.prog 38 #[.string x] w fun e w' => NbR (numL x.data.toList) e ∧ Below w.heap.size w w' := by
  have HN := Lib.hid hn
  have HPD := Lib.hid hPD
  clear hPD
  have KI : Hid (∀ W, LV W → Calls Tryz.prog 58 #[.string P, .int .i64 10, .int .i64 64] W fun e w' => e = .returned (.tuple #[.int .i64 v, .nilIface]) ∧ Below W.heap.size W w') := Lib.hid (fun W hW => (parseInt_any P hsz W hW).mono (fun e w' q => ⟨by have := q.1; unfold PiR at this; rw [hP] at this; exact this, q.2⟩))
  clear hn hP
  have HLV := Lib.hid h
  have HB0 := Lib.hid ((Below.refl w.heap.size w).alloc (Nat.le_refl _) (.cells #[.string x] 9))
  have HR0 := Lib.hid (show One (w.alloc (.cells #[.string x] 9)) w.heap.size 9 (.string x) from heap_alloc_new w _)
  have KA : Hid (∀ W, One W w.heap.size 9 (.string x) → Calls Tryz.prog 53 #[.func (.func 57) #[] #[], .pointer (some ⟨w.heap.size, 0, none⟩)] W fun e w' => e = .returned (.string A) ∧ One w' w.heap.size 9 (.string X2) ∧ Kp w.heap.size W w') := Lib.hid (fun W hW => by rw [hA, hX]; exact take_mn x _ W hW hs)
  have KD : Hid (∀ W, One W w.heap.size 9 (.string X2) → Calls Tryz.prog 53 #[.func (.func 54) #[] #[], .pointer (some ⟨w.heap.size, 0, none⟩)] W fun e w' => e = .returned (.string D0) ∧ Kp w.heap.size W w') := Lib.hid (fun W hW => by rw [hD]; exact (take_dg X2 _ W hW hXs).mono (fun _ _ q => ⟨q.1, q.2.2⟩))
  have KP0 : Hid (∀ W, Calls Tryz.prog 37 #[.string D0, .string ⟨#[48]⟩] W fun e w' => e = .returned (.bool false) ∧ W = w') := Lib.hid (fun W => (prefix_any D0 ⟨#[48]⟩ W).mono (by rintro e w' ⟨rfl, rfl⟩; exact ⟨ret_bool hh, rfl⟩))
  clear h hA hX hD hh
  go_enter Tryz.func38, Tryz.ntmps38
  go_wp2_with fail
  refine (taker_any x w).mono ?_
  rintro e w1 ⟨rfl, rfl⟩
  generalize w.alloc (.cells #[.string x] 9) = w1 at HB0 HR0 ⊢
  go_wp2_with fail
  refine (KA.out _ HR0.out).mono ?_
  rintro e w2 ⟨rfl, hR, hk⟩
  have HR2 := Lib.hid hR
  have HB2 := Lib.hid (HB0.out.trans hk.bel)
  clear hR hk KA
  go_wp2_with fail
  refine (KD.out _ HR2.out).mono ?_
  rintro e w3 ⟨rfl, hk⟩
  have HB3 := Lib.hid (HB2.out.trans hk.bel)
  have HLV3 := Lib.hid (HLV.out.go HB3.out)
  clear hk KD HB2 HR2
  go_wp2_with fail
  refine (KP0.out w3).mono ?_
  rintro e w4 ⟨rfl, rfl⟩
  clear KP0
  go_wp2_with fail
  rw [HPD.out]
  refine (KI.out w3 HLV3.out).mono ?_
  rintro e w5 ⟨rfl, hb5⟩
  go_wp2_with fail
  go_ret2
  exact ⟨by rw [HN.out]; rfl, HB3.out.trans (hb5.mono HB3.out.size)⟩
set_option maxHeartbeats 2000000 in
set_option maxRecDepth 100000 in
theorem number_hi_d (x : ByteArray) (hs : x.size ≤ 1000000) (w : World) (h : LV w) (A X2 D0 : ByteArray) (hA : A = x.extract 0 (tk mnB x.data.toList)) (hX : X2 = x.extract (tk mnB x.data.toList) x.size) (hD : D0 = X2.extract 0 (tk dgB X2.data.toList)) (hAs : A.size ≤ 1000000) (hXs : X2.size ≤ 1000000) (hDs : D0.size ≤ 1000000)
    (P : ByteArray) (hPD : A ++ D0 = P) (hsz : P.size ≤ 1000000) (hh : Lib.hasPrefix D0.data.toList [48] = false) (v : Int) (N : Nat) (hn : numL x.data.toList = .no 0) (hP : Lib.parseIntB 64 P.data.toList = .ok v) (h1 : decide (v < -9007199254740991) = false) (h2 : decide (9007199254740991 < v) = true) : Calls Tryz.prog 38 #[.string x] w fun e w' => NbR (numL x.data.toList) e ∧ Below w.heap.size w w' := by
  have HN := Lib.hid hn
  have HPD := Lib.hid hPD
  clear hPD
  have KI : Hid (∀ W, LV W → Calls Tryz.prog 58 #[.string P, .int .i64 10, .int .i64 64] W fun e w' => e = .returned (.tuple #[.int .i64 v, .nilIface]) ∧ Below W.heap.size W w') := Lib.hid (fun W hW => (parseInt_any P hsz W hW).mono (fun e w' q => ⟨by have := q.1; unfold PiR at this; rw [hP] at this; exact this, q.2⟩))
  clear hn hP
  have HLV := Lib.hid h
  have HB0 := Lib.hid ((Below.refl w.heap.size w).alloc (Nat.le_refl _) (.cells #[.string x] 9))
  have HR0 := Lib.hid (show One (w.alloc (.cells #[.string x] 9)) w.heap.size 9 (.string x) from heap_alloc_new w _)
  have KA : Hid (∀ W, One W w.heap.size 9 (.string x) → Calls Tryz.prog 53 #[.func (.func 57) #[] #[], .pointer (some ⟨w.heap.size, 0, none⟩)] W fun e w' => e = .returned (.string A) ∧ One w' w.heap.size 9 (.string X2) ∧ Kp w.heap.size W w') := Lib.hid (fun W hW => by rw [hA, hX]; exact take_mn x _ W hW hs)
  have KD : Hid (∀ W, One W w.heap.size 9 (.string X2) → Calls Tryz.prog 53 #[.func (.func 54) #[] #[], .pointer (some ⟨w.heap.size, 0, none⟩)] W fun e w' => e = .returned (.string D0) ∧ Kp w.heap.size W w') := Lib.hid (fun W hW => by rw [hD]; exact (take_dg X2 _ W hW hXs).mono (fun _ _ q => ⟨q.1, q.2.2⟩))
  have KP0 : Hid (∀ W, Calls Tryz.prog 37 #[.string D0, .string ⟨#[48]⟩] W fun e w' => e = .returned (.bool false) ∧ W = w') := Lib.hid (fun W => (prefix_any D0 ⟨#[48]⟩ W).mono (by rintro e w' ⟨rfl, rfl⟩; exact ⟨ret_bool hh, rfl⟩))
  clear h hA hX hD hh
  go_enter Tryz.func38, Tryz.ntmps38
  go_wp2_with fail
  refine (taker_any x w).mono ?_
  rintro e w1 ⟨rfl, rfl⟩
  generalize w.alloc (.cells #[.string x] 9) = w1 at HB0 HR0 ⊢
  go_wp2_with fail
  refine (KA.out _ HR0.out).mono ?_
  rintro e w2 ⟨rfl, hR, hk⟩
  have HR2 := Lib.hid hR
  have HB2 := Lib.hid (HB0.out.trans hk.bel)
  clear hR hk KA
  go_wp2_with fail
  refine (KD.out _ HR2.out).mono ?_
  rintro e w3 ⟨rfl, hk⟩
  have HB3 := Lib.hid (HB2.out.trans hk.bel)
  have HLV3 := Lib.hid (HLV.out.go HB3.out)
  clear hk KD HB2 HR2
  go_wp2_with fail
  refine (KP0.out w3).mono ?_
  rintro e w4 ⟨rfl, rfl⟩
  clear KP0
  go_wp2_with fail
  rw [HPD.out]
  refine (KI.out w3 HLV3.out).mono ?_
  rintro e w5 ⟨rfl, hb5⟩
  go_wp2_with fail
  go_ret2
  exact ⟨by rw [HN.out]; rfl, HB3.out.trans (hb5.mono HB3.out.size)⟩
set_option maxHeartbeats 2000000 in
set_option maxRecDepth 100000 in
theorem number_nz_d (x : ByteArray) (hs : x.size ≤ 1000000) (w : World) (h : LV w) (A X2 D0 : ByteArray) (hA : A = x.extract 0 (tk mnB x.data.toList)) (hX : X2 = x.extract (tk mnB x.data.toList) x.size) (hD : D0 = X2.extract 0 (tk dgB X2.data.toList)) (hAs : A.size ≤ 1000000) (hXs : X2.size ≤ 1000000) (hDs : D0.size ≤ 1000000)
    (P : ByteArray) (hPD : A ++ D0 = P) (hsz : P.size ≤ 1000000) (hh : Lib.hasPrefix D0.data.toList [48] = false) (v : Int) (N : Nat) (hn : numL x.data.toList = .no 0) (hP : Lib.parseIntB 64 P.data.toList = .ok v) (h1 : decide (v < -9007199254740991) = false) (h2 : decide (9007199254740991 < v) = false) (h3 : (v == 0) = true) (h4 : A.toList.isEmpty = false) : Calls Tryz.prog 38 #[.string x] w fun e w' => NbR (numL x.data.toList) e ∧ Below w.heap.size w w' := by
  have HN := Lib.hid hn
  have HPD := Lib.hid hPD
  clear hPD
  have KI : Hid (∀ W, LV W → Calls Tryz.prog 58 #[.string P, .int .i64 10, .int .i64 64] W fun e w' => e = .returned (.tuple #[.int .i64 v, .nilIface]) ∧ Below W.heap.size W w') := Lib.hid (fun W hW => (parseInt_any P hsz W hW).mono (fun e w' q => ⟨by have := q.1; unfold PiR at this; rw [hP] at this; exact this, q.2⟩))
  clear hn hP
  have HLV := Lib.hid h
  have HB0 := Lib.hid ((Below.refl w.heap.size w).alloc (Nat.le_refl _) (.cells #[.string x] 9))
  have HR0 := Lib.hid (show One (w.alloc (.cells #[.string x] 9)) w.heap.size 9 (.string x) from heap_alloc_new w _)
  have KA : Hid (∀ W, One W w.heap.size 9 (.string x) → Calls Tryz.prog 53 #[.func (.func 57) #[] #[], .pointer (some ⟨w.heap.size, 0, none⟩)] W fun e w' => e = .returned (.string A) ∧ One w' w.heap.size 9 (.string X2) ∧ Kp w.heap.size W w') := Lib.hid (fun W hW => by rw [hA, hX]; exact take_mn x _ W hW hs)
  have KD : Hid (∀ W, One W w.heap.size 9 (.string X2) → Calls Tryz.prog 53 #[.func (.func 54) #[] #[], .pointer (some ⟨w.heap.size, 0, none⟩)] W fun e w' => e = .returned (.string D0) ∧ Kp w.heap.size W w') := Lib.hid (fun W hW => by rw [hD]; exact (take_dg X2 _ W hW hXs).mono (fun _ _ q => ⟨q.1, q.2.2⟩))
  have KP0 : Hid (∀ W, Calls Tryz.prog 37 #[.string D0, .string ⟨#[48]⟩] W fun e w' => e = .returned (.bool false) ∧ W = w') := Lib.hid (fun W => (prefix_any D0 ⟨#[48]⟩ W).mono (by rintro e w' ⟨rfl, rfl⟩; exact ⟨ret_bool hh, rfl⟩))
  clear h hA hX hD hh
  go_enter Tryz.func38, Tryz.ntmps38
  go_wp2_with fail
  refine (taker_any x w).mono ?_
  rintro e w1 ⟨rfl, rfl⟩
  generalize w.alloc (.cells #[.string x] 9) = w1 at HB0 HR0 ⊢
  go_wp2_with fail
  refine (KA.out _ HR0.out).mono ?_
  rintro e w2 ⟨rfl, hR, hk⟩
  have HR2 := Lib.hid hR
  have HB2 := Lib.hid (HB0.out.trans hk.bel)
  clear hR hk KA
  go_wp2_with fail
  refine (KD.out _ HR2.out).mono ?_
  rintro e w3 ⟨rfl, hk⟩
  have HB3 := Lib.hid (HB2.out.trans hk.bel)
  have HLV3 := Lib.hid (HLV.out.go HB3.out)
  clear hk KD HB2 HR2
  go_wp2_with fail
  refine (KP0.out w3).mono ?_
  rintro e w4 ⟨rfl, rfl⟩
  clear KP0
  go_wp2_with fail
  rw [HPD.out]
  refine (KI.out w3 HLV3.out).mono ?_
  rintro e w5 ⟨rfl, hb5⟩
  go_wp2_with fail
  go_ret2
  exact ⟨by rw [HN.out]; rfl, HB3.out.trans (hb5.mono HB3.out.size)⟩
set_option maxHeartbeats 2000000 in
set_option maxRecDepth 100000 in
theorem number_ok0_d (x : ByteArray) (hs : x.size ≤ 1000000) (w : World) (h : LV w) (A X2 D0 : ByteArray) (hA : A = x.extract 0 (tk mnB x.data.toList)) (hX : X2 = x.extract (tk mnB x.data.toList) x.size) (hD : D0 = X2.extract 0 (tk dgB X2.data.toList)) (hAs : A.size ≤ 1000000) (hXs : X2.size ≤ 1000000) (hDs : D0.size ≤ 1000000)
    (P : ByteArray) (hPD : A ++ D0 = P) (hsz : P.size ≤ 1000000) (hh : Lib.hasPrefix D0.data.toList [48] = false) (v : Int) (N : Nat) (hn : numL x.data.toList = .ok 3 P.data.toList N) (hP : Lib.parseIntB 64 P.data.toList = .ok v) (h1 : decide (v < -9007199254740991) = false) (h2 : decide (9007199254740991 < v) = false) (h3 : (v == 0) = true) (h4 : A.toList.isEmpty = true) : Calls Tryz.prog 38 #[.string x] w fun e w' => NbR (numL x.data.toList) e ∧ Below w.heap.size w w' := by
  have HN := Lib.hid hn
  have HPD := Lib.hid hPD
  clear hPD
  have KI : Hid (∀ W, LV W → Calls Tryz.prog 58 #[.string P, .int .i64 10, .int .i64 64] W fun e w' => e = .returned (.tuple #[.int .i64 v, .nilIface]) ∧ Below W.heap.size W w') := Lib.hid (fun W hW => (parseInt_any P hsz W hW).mono (fun e w' q => ⟨by have := q.1; unfold PiR at this; rw [hP] at this; exact this, q.2⟩))
  clear hn hP
  have HLV := Lib.hid h
  have HB0 := Lib.hid ((Below.refl w.heap.size w).alloc (Nat.le_refl _) (.cells #[.string x] 9))
  have HR0 := Lib.hid (show One (w.alloc (.cells #[.string x] 9)) w.heap.size 9 (.string x) from heap_alloc_new w _)
  have KA : Hid (∀ W, One W w.heap.size 9 (.string x) → Calls Tryz.prog 53 #[.func (.func 57) #[] #[], .pointer (some ⟨w.heap.size, 0, none⟩)] W fun e w' => e = .returned (.string A) ∧ One w' w.heap.size 9 (.string X2) ∧ Kp w.heap.size W w') := Lib.hid (fun W hW => by rw [hA, hX]; exact take_mn x _ W hW hs)
  have KD : Hid (∀ W, One W w.heap.size 9 (.string X2) → Calls Tryz.prog 53 #[.func (.func 54) #[] #[], .pointer (some ⟨w.heap.size, 0, none⟩)] W fun e w' => e = .returned (.string D0) ∧ Kp w.heap.size W w') := Lib.hid (fun W hW => by rw [hD]; exact (take_dg X2 _ W hW hXs).mono (fun _ _ q => ⟨q.1, q.2.2⟩))
  have KP0 : Hid (∀ W, Calls Tryz.prog 37 #[.string D0, .string ⟨#[48]⟩] W fun e w' => e = .returned (.bool false) ∧ W = w') := Lib.hid (fun W => (prefix_any D0 ⟨#[48]⟩ W).mono (by rintro e w' ⟨rfl, rfl⟩; exact ⟨ret_bool hh, rfl⟩))
  clear h hA hX hD hh
  go_enter Tryz.func38, Tryz.ntmps38
  go_wp2_with fail
  refine (taker_any x w).mono ?_
  rintro e w1 ⟨rfl, rfl⟩
  generalize w.alloc (.cells #[.string x] 9) = w1 at HB0 HR0 ⊢
  go_wp2_with fail
  refine (KA.out _ HR0.out).mono ?_
  rintro e w2 ⟨rfl, hR, hk⟩
  have HR2 := Lib.hid hR
  have HB2 := Lib.hid (HB0.out.trans hk.bel)
  clear hR hk KA
  go_wp2_with fail
  refine (KD.out _ HR2.out).mono ?_
  rintro e w3 ⟨rfl, hk⟩
  have HB3 := Lib.hid (HB2.out.trans hk.bel)
  have HLV3 := Lib.hid (HLV.out.go HB3.out)
  clear hk KD HB2 HR2
  go_wp2_with fail
  refine (KP0.out w3).mono ?_
  rintro e w4 ⟨rfl, rfl⟩
  clear KP0
  go_wp2_with fail
  rw [HPD.out]
  refine (KI.out w3 HLV3.out).mono ?_
  rintro e w5 ⟨rfl, hb5⟩
  go_wp2_with fail
  go_ret2
  refine ⟨?_, HB3.out.trans (hb5.mono HB3.out.size)⟩
  rw [HN.out]
  show _ = Ending.returned (.tuple #[.string ⟨P.data.toList.toArray⟩, .bool true])
  rw [ba_eq, ← HPD.out]
  rfl
set_option maxHeartbeats 2000000 in
set_option maxRecDepth 100000 in
theorem number_ok1_d (x : ByteArray) (hs : x.size ≤ 1000000) (w : World) (h : LV w) (A X2 D0 : ByteArray) (hA : A = x.extract 0 (tk mnB x.data.toList)) (hX : X2 = x.extract (tk mnB x.data.toList) x.size) (hD : D0 = X2.extract 0 (tk dgB X2.data.toList)) (hAs : A.size ≤ 1000000) (hXs : X2.size ≤ 1000000) (hDs : D0.size ≤ 1000000)
    (P : ByteArray) (hPD : A ++ D0 = P) (hsz : P.size ≤ 1000000) (hh : Lib.hasPrefix D0.data.toList [48] = false) (v : Int) (N : Nat) (hn : numL x.data.toList = .ok 3 P.data.toList N) (hP : Lib.parseIntB 64 P.data.toList = .ok v) (h1 : decide (v < -9007199254740991) = false) (h2 : decide (9007199254740991 < v) = false) (h3 : (v == 0) = false) : Calls Tryz.prog 38 #[.string x] w fun e w' => NbR (numL x.data.toList) e ∧ Below w.heap.size w w' := by
  have HN := Lib.hid hn
  have HPD := Lib.hid hPD
  clear hPD
  have KI : Hid (∀ W, LV W → Calls Tryz.prog 58 #[.string P, .int .i64 10, .int .i64 64] W fun e w' => e = .returned (.tuple #[.int .i64 v, .nilIface]) ∧ Below W.heap.size W w') := Lib.hid (fun W hW => (parseInt_any P hsz W hW).mono (fun e w' q => ⟨by have := q.1; unfold PiR at this; rw [hP] at this; exact this, q.2⟩))
  clear hn hP
  have HLV := Lib.hid h
  have HB0 := Lib.hid ((Below.refl w.heap.size w).alloc (Nat.le_refl _) (.cells #[.string x] 9))
  have HR0 := Lib.hid (show One (w.alloc (.cells #[.string x] 9)) w.heap.size 9 (.string x) from heap_alloc_new w _)
  have KA : Hid (∀ W, One W w.heap.size 9 (.string x) → Calls Tryz.prog 53 #[.func (.func 57) #[] #[], .pointer (some ⟨w.heap.size, 0, none⟩)] W fun e w' => e = .returned (.string A) ∧ One w' w.heap.size 9 (.string X2) ∧ Kp w.heap.size W w') := Lib.hid (fun W hW => by rw [hA, hX]; exact take_mn x _ W hW hs)
  have KD : Hid (∀ W, One W w.heap.size 9 (.string X2) → Calls Tryz.prog 53 #[.func (.func 54) #[] #[], .pointer (some ⟨w.heap.size, 0, none⟩)] W fun e w' => e = .returned (.string D0) ∧ Kp w.heap.size W w') := Lib.hid (fun W hW => by rw [hD]; exact (take_dg X2 _ W hW hXs).mono (fun _ _ q => ⟨q.1, q.2.2⟩))
  have KP0 : Hid (∀ W, Calls Tryz.prog 37 #[.string D0, .string ⟨#[48]⟩] W fun e w' => e = .returned (.bool false) ∧ W = w') := Lib.hid (fun W => (prefix_any D0 ⟨#[48]⟩ W).mono (by rintro e w' ⟨rfl, rfl⟩; exact ⟨ret_bool hh, rfl⟩))
  clear h hA hX hD hh
  go_enter Tryz.func38, Tryz.ntmps38
  go_wp2_with fail
  refine (taker_any x w).mono ?_
  rintro e w1 ⟨rfl, rfl⟩
  generalize w.alloc (.cells #[.string x] 9) = w1 at HB0 HR0 ⊢
  go_wp2_with fail
  refine (KA.out _ HR0.out).mono ?_
  rintro e w2 ⟨rfl, hR, hk⟩
  have HR2 := Lib.hid hR
  have HB2 := Lib.hid (HB0.out.trans hk.bel)
  clear hR hk KA
  go_wp2_with fail
  refine (KD.out _ HR2.out).mono ?_
  rintro e w3 ⟨rfl, hk⟩
  have HB3 := Lib.hid (HB2.out.trans hk.bel)
  have HLV3 := Lib.hid (HLV.out.go HB3.out)
  clear hk KD HB2 HR2
  go_wp2_with fail
  refine (KP0.out w3).mono ?_
  rintro e w4 ⟨rfl, rfl⟩
  clear KP0
  go_wp2_with fail
  rw [HPD.out]
  refine (KI.out w3 HLV3.out).mono ?_
  rintro e w5 ⟨rfl, hb5⟩
  go_wp2_with fail
  go_ret2
  refine ⟨?_, HB3.out.trans (hb5.mono HB3.out.size)⟩
  rw [HN.out]
  show _ = Ending.returned (.tuple #[.string ⟨P.data.toList.toArray⟩, .bool true])
  rw [ba_eq, ← HPD.out]
  rfl
theorem number_any (x : ByteArray) (hs : x.size ≤ 1000000) (w : World) (h : LV w) : Calls Tryz.prog 38 #[.string x] w fun e w' => NbR (numL x.data.toList) e ∧ Below w.heap.size w w' := by
  have hM := tk_le mnB x.data.toList
  rw [← Lib.size_eq] at hM
  obtain ⟨A, hA⟩ : ∃ A, A = x.extract 0 (tk mnB x.data.toList) := ⟨_, rfl⟩
  obtain ⟨X2, hX⟩ : ∃ X2, X2 = x.extract (tk mnB x.data.toList) x.size := ⟨_, rfl⟩
  obtain ⟨D0, hD⟩ : ∃ D0, D0 = X2.extract 0 (tk dgB X2.data.toList) := ⟨_, rfl⟩
  have hAd : A.data.toList = mnT x.data.toList := by rw [hA, Lib.extract_data, List.drop_zero, Nat.sub_zero]; rfl
  have hXd : X2.data.toList = x.data.toList.drop (tk mnB x.data.toList) := by rw [hX, Lib.extract_data, List.take_of_length_le (by rw [List.length_drop, ← Lib.size_eq]; omega)]
  have hDd : D0.data.toList = dgT x.data.toList := by rw [hD, Lib.extract_data, List.drop_zero, Nat.sub_zero, hXd]; rfl
  have hAs : A.size = tk mnB x.data.toList := by rw [hA, ByteArray.size_extract]; omega
  have hXs : X2.size = x.size - tk mnB x.data.toList := by rw [hX, ByteArray.size_extract]; omega
  have hDs : D0.size ≤ X2.size := by
    have := tk_le dgB X2.data.toList
    rw [← Lib.size_eq] at this
    rw [hD, ByteArray.size_extract]; omega
  have hh : Lib.hasPrefix D0.data.toList [48] = hd48 (dgT x.data.toList) := by rw [hDd, hd48_pre]
  have hmt : A.toList.isEmpty = true → mnT x.data.toList = [] := fun e => by
    rw [Lib.toList_data, List.isEmpty_iff] at e
    rw [← hAd]; exact e
  have hmf : A.toList.isEmpty = false → mnT x.data.toList ≠ [] := fun e k => by
    rw [← hAd] at k
    rw [Lib.toList_data, k] at e
    cases e
  have hz0 : hd48 (dgT x.data.toList) = true → 1 ≤ D0.size := fun e => by
    obtain ⟨t, ht⟩ := hd48_is e
    rw [Lib.size_eq, hDd, ht]; simp
  cases hz : hd48 (dgT x.data.toList)
  · obtain ⟨P, hPD⟩ : ∃ P, A ++ D0 = P := ⟨_, rfl⟩
    have hP1 : P.data.toList = prN x.data.toList := by
      rw [← hPD, Joins.data_append, hAd]
      unfold prN dgU
      rw [hz]
      rw [hDd]; rfl
    have hsz : P.size ≤ 1000000 := by
      have h0 := hz0
      rw [hz] at h0
      rw [← hPD, ByteArray.size_append]; omega
    rw [hz] at hh
    have hb : A.size ≤ 1000000 ∧ X2.size ≤ 1000000 ∧ D0.size ≤ 1000000 := by omega
    obtain ⟨b1, b2, b3⟩ := hb
    rcases num_out x.data.toList with ⟨hp, hn⟩ | ⟨hp, hn⟩ | ⟨v, hp, hn⟩
    · exact number_bad_d x hs w h A X2 D0 hA hX hD b1 b2 b3 P hPD hsz hh hn (fun e he => by unfold PiR at he; rw [hP1, hp] at he; exact he)
    · exact number_bad_d x hs w h A X2 D0 hA hX hD b1 b2 b3 P hPD hsz hh hn (fun e he => by unfold PiR at he; rw [hP1, hp] at he; exact he)
    · rw [← hP1] at hp hn
      by_cases c1 : v < -9007199254740991
      · rw [if_pos (Or.inl c1)] at hn
        exact number_lo_d x hs w h A X2 D0 hA hX hD b1 b2 b3 P hPD hsz hh v 0 hn hp (decide_eq_true c1)
      by_cases c2 : 9007199254740991 < v
      · rw [if_pos (Or.inr (Or.inl c2))] at hn
        exact number_hi_d x hs w h A X2 D0 hA hX hD b1 b2 b3 P hPD hsz hh v 0 hn hp (decide_eq_false c1) (decide_eq_true c2)
      by_cases c3 : v = 0
      · cases c4 : A.toList.isEmpty
        · rw [if_pos (Or.inr (Or.inr ⟨c3, hmf c4⟩))] at hn
          exact number_nz_d x hs w h A X2 D0 hA hX hD b1 b2 b3 P hPD hsz hh v 0 hn hp (decide_eq_false c1) (decide_eq_false c2) (by rw [c3]; rfl) c4
        · rw [if_neg (by rintro (q | q | q); exact c1 q; exact c2 q; exact q.2 (hmt c4))] at hn
          exact number_ok0_d x hs w h A X2 D0 hA hX hD b1 b2 b3 P hPD hsz hh v _ hn hp (decide_eq_false c1) (decide_eq_false c2) (by rw [c3]; rfl) c4
      · rw [if_neg (by rintro (q | q | q); exact c1 q; exact c2 q; exact c3 q.1)] at hn
        exact number_ok1_d x hs w h A X2 D0 hA hX hD b1 b2 b3 P hPD hsz hh v _ hn hp (decide_eq_false c1) (decide_eq_false c2) (beq_eq_false_iff_ne.2 c3)
  · obtain ⟨P, hPD⟩ : ∃ P, A ++ ⟨#[48]⟩ = P := ⟨_, rfl⟩
    have hP1 : P.data.toList = prN x.data.toList := by
      rw [← hPD, Joins.data_append, hAd]
      unfold prN dgU
      rw [hz]
      rfl
    have hsz : P.size ≤ 1000000 := by
      have h0 := hz0
      rw [hz] at h0
      have h1 := h0 rfl
      have h2 : A.size + 1 ≤ x.size := by omega
      have h3 : P.size = A.size + 1 := by rw [← hPD]; exact ByteArray.size_append
      omega
    rw [hz] at hh
    have hb : A.size ≤ 1000000 ∧ X2.size ≤ 1000000 ∧ D0.size ≤ 1000000 := by omega
    obtain ⟨b1, b2, b3⟩ := hb
    rcases num_out x.data.toList with ⟨hp, hn⟩ | ⟨hp, hn⟩ | ⟨v, hp, hn⟩
    · exact number_bad_z x hs w h A X2 D0 hA hX hD b1 b2 b3 P hPD hsz hh hn (fun e he => by unfold PiR at he; rw [hP1, hp] at he; exact he)
    · exact number_bad_z x hs w h A X2 D0 hA hX hD b1 b2 b3 P hPD hsz hh hn (fun e he => by unfold PiR at he; rw [hP1, hp] at he; exact he)
    · rw [← hP1] at hp hn
      by_cases c1 : v < -9007199254740991
      · rw [if_pos (Or.inl c1)] at hn
        exact number_lo_z x hs w h A X2 D0 hA hX hD b1 b2 b3 P hPD hsz hh v 0 hn hp (decide_eq_true c1)
      by_cases c2 : 9007199254740991 < v
      · rw [if_pos (Or.inr (Or.inl c2))] at hn
        exact number_hi_z x hs w h A X2 D0 hA hX hD b1 b2 b3 P hPD hsz hh v 0 hn hp (decide_eq_false c1) (decide_eq_true c2)
      by_cases c3 : v = 0
      · cases c4 : A.toList.isEmpty
        · rw [if_pos (Or.inr (Or.inr ⟨c3, hmf c4⟩))] at hn
          exact number_nz_z x hs w h A X2 D0 hA hX hD b1 b2 b3 P hPD hsz hh v 0 hn hp (decide_eq_false c1) (decide_eq_false c2) (by rw [c3]; rfl) c4
        · rw [if_neg (by rintro (q | q | q); exact c1 q; exact c2 q; exact q.2 (hmt c4))] at hn
          exact number_ok0_z x hs w h A X2 D0 hA hX hD b1 b2 b3 P hPD hsz hh v _ hn hp (decide_eq_false c1) (decide_eq_false c2) (by rw [c3]; rfl) c4
      · rw [if_neg (by rintro (q | q | q); exact c1 q; exact c2 q; exact c3 q.1)] at hn
        exact number_ok1_z x hs w h A X2 D0 hA hX hD b1 b2 b3 P hPD hsz hh v _ hn hp (decide_eq_false c1) (decide_eq_false c2) (beq_eq_false_iff_ne.2 c3)
end Go.Proofs.YtejniiehfangkaaGreatDoor
