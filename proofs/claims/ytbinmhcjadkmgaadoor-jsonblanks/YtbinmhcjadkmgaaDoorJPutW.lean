/- cascade/json's put at every right value that isn't great. -/
import Derived.Test.YtbinmhcjadkmgaaDoorJPut
set_option linter.unusedVariables false
set_option linter.unusedSimpArgs false
namespace Go.Proofs.YtbinmhcjadkmgaaDoor
open Go.RowKit
/-- The builder, and what is kept. -/
def PI (B b : Nat) (w wr : World) (o : List UInt8) : Prop := Lib.IsBuilder 42 5 B b (Lib.byteCells o) wr ∧ Fr B b w wr
theorem one_more (w : World) (o : Obj) : Below w.heap.size w (w.alloc o) := (Below.refl _ _).alloc (Nat.le_refl _) _
theorem formatBool_len (x : Bool) : (Lib.formatBool x).length ≤ 5 := by cases x <;> decide
set_option maxHeartbeats 2000000 in
set_option maxRecDepth 100000 in
theorem put_any : ∀ (a : Va) (S : Nat → Prop) (h : Hd) (w : World) (B b d : Nat) (o : List UInt8), Lies w S a h → (∀ b, S b → b < B) → a.R d → a.Sh → o.length + a.js.length ≤ 4294000000 → TabsB B w → Lib.IsBuilder 42 5 B b (Lib.byteCells o) w → B ≤ w.heap.size →
    Calls Tryd.prog 16 #[.pointer (some ⟨b, 0, none⟩), h.val] w fun e w' => e = .returned (.tuple #[]) ∧ PI B b w w' (o ++ a.js) := by
  intro a
  induction a using Va.ind with
  | h k nn s l ks f ihl ihf =>
  intro S h w B b d o H hS hR hsh hlen hT hI hBw
  have Hop := H.op
  simp only [Lies] at H
  obtain ⟨⟨e1, e2, e3, e4, e5, e6⟩, ⟨b1, b2, b3, b4, b5, b6, b7, b8⟩, -, -⟩ := H
  obtain ⟨hk, hnn, hs, A, la, lc, F, lf, fc⟩ := h
  simp only at e1 e2 e3 e4 e5 b7 b8
  subst e1 e2 e3 e4 e5
  have hml : maxLen ≤ 9223372036854775807 := by decide
  have b5' : l.length ≤ 9223372036854775807 := Nat.le_trans b5 hml
  have b6' : f.length ≤ 9223372036854775807 := Nat.le_trans b6 hml
  clear hml b5 b6 b3
  simp only [Va.R] at hR
  obtain ⟨-, htop, hkeys, hRl, hRf⟩ := hR
  simp only [Va.Sh] at hsh
  obtain ⟨hs1, hs2, hs3, hs4⟩ := hsh
  have hbw := builder_lt hI
  have HI0 := Lib.hid (builder_below hI (one_more w (Obj.cells #[.int .i64 hk, .int .i64 hnn, .string hs, .slice A l.length lc, .slice F f.length fc] 25)))
  have HF0 := Lib.hid (Fr.below (b := b) (one_more w (Obj.cells #[.int .i64 hk, .int .i64 hnn, .string hs, .slice A l.length lc, .slice F f.length fc] 25)) hBw)
  have HT0 := Lib.hid (hT.go HF0.out.1)
  have HRS := Lib.hid htop.c8
  have hkk : hk = 0 ∨ hk = 1 ∨ hk = 2 ∨ hk = 3 ∨ hk = 4 ∨ hk = 5 := by have := htop.k0; have := htop.k5; omega
  have HKEYS := Lib.hid hkeys
  have HRL := Lib.hid hRl
  have HRF := Lib.hid hRf
  have HS2 := Lib.hid hs2
  have HS3 := Lib.hid hs3
  have HS4 := Lib.hid hs4
  have HS := Lib.hid hS
  have hT := Lib.hid hT
  clear hI htop hkeys hRl hRf hs2 hs3 hs4 b4 hS b1
  unfold Hd.val
  simp only
  rcases hkk with rfl | rfl | rfl | rfl | rfl | rfl
  · have HJ := Lib.hid (js_null (k := 0) (n := hnn) (s := hs) (l := l) (ks := ks) (f := f) rfl)
    generalize (Va.mk 0 hnn hs l ks f).js = J at *
    clear ihl ihf Hop
    go_enter Tryd.func16, Tryd.ntmps16
    go_wp2_with fail
    refine (write_string B b o ⟨#[110, 117, 108, 108]⟩ _ HI0.out (by omega) (by decide) (by simp; omega)).mono ?_
    rintro e w1 ⟨rfl, h1, f1⟩
    go_wp2_with fail
    go_end0
    exact ⟨rfl, builder_eq (by rw [HJ.out]) h1, HF0.out.trans f1⟩
  · have HJ := Lib.hid (js_bool (k := 1) (n := hnn) (s := hs) (l := l) (ks := ks) (f := f) rfl)
    generalize (Va.mk 1 hnn hs l ks f).js = J at *
    have HZ := Lib.hid (formatBool_len (hnn == 1))
    clear ihl ihf Hop
    go_enter Tryd.func16, Tryd.ntmps16
    go_wp2_with fail
    refine (Tryd.strconv_FormatBool _ _).mono ?_
    rintro e w1 ⟨rfl, rfl⟩
    go_wp2_with fail
    refine (write_string B b o ⟨(Lib.formatBool (hnn == 1)).toArray⟩ _ HI0.out (by omega) (by have := HZ.out; simp [ByteArray.size]; omega) (by simp; omega)).mono ?_
    rintro e w1 ⟨rfl, h1, f1⟩
    go_wp2_with fail
    go_end0
    exact ⟨rfl, builder_eq (by rw [HJ.out]) h1, HF0.out.trans f1⟩
  · have HJ := Lib.hid (js_int (k := 2) (n := hnn) (s := hs) (l := l) (ks := ks) (f := f) rfl)
    generalize (Va.mk 2 hnn hs l ks f).js = J at *
    have HZ := Lib.hid (Lib.itoa_length_le hnn b2.1 b2.2)
    have HC := Lib.hid (Tryd.strconv_FormatInt_10 hnn b2.1 b2.2 _ HT0.out.2.1)
    clear ihl ihf Hop
    go_enter Tryd.func16, Tryd.ntmps16
    go_wp2_with fail
    refine HC.out.mono ?_
    rintro e w1 ⟨rfl, kk, os, hw1⟩
    have hb1 := below_grown (w.alloc (Obj.cells #[.int .i64 2, .int .i64 hnn, .string hs, .slice A l.length lc, .slice F f.length fc] 25)) kk os
    rw [← hw1] at hb1
    have HI1 := Lib.hid (builder_below HI0.out hb1)
    have HF1 := Lib.hid (HF0.out.trans (Fr.below (b := b) hb1 (by simp; omega)))
    clear hw1 hb1 HC
    go_wp2_with fail
    refine (write_string B b o ⟨(Lib.itoa hnn).toArray⟩ _ HI1.out (by omega) (by have := HZ.out; simp [ByteArray.size]; omega) (by have := HF1.out.1.size; omega)).mono ?_
    rintro e w2 ⟨rfl, h1, f1⟩
    go_wp2_with fail
    go_end0
    exact ⟨rfl, builder_eq (by rw [HJ.out]) h1, HF1.out.trans f1⟩
  · have HJ := Lib.hid (js_str (k := 3) (n := hnn) (s := hs) (l := l) (ks := ks) (f := f) rfl)
    generalize (Va.mk 3 hnn hs l ks f).js = J at *
    clear ihl ihf Hop
    go_enter Tryd.func16, Tryd.ntmps16
    go_wp2_with fail
    refine (put_quoted B b o hs _ hs1 HRS.out HT0.out HI0.out (by omega) (by simp; omega)).mono ?_
    rintro e w1 ⟨rfl, h1, f1⟩
    go_wp2_with fail
    go_end0
    exact ⟨rfl, builder_eq (by rw [HJ.out]) h1, HF0.out.trans f1⟩
  · have HJ := Lib.hid (js_list (k := 4) (n := hnn) (s := hs) (l := l) (ks := ks) (f := f) rfl)
    generalize (Va.mk 4 hnn hs l ks f).js = J at *
    have hlen' : o.length + (jsL l false).length + 2 ≤ 4294000000 := by have := congrArg List.length HJ.out; simp at this; omega
    clear ihf hlen
    go_enter Tryd.func16, Tryd.ntmps16
    go_wp2_with fail
    refine (write_byte B b o 91 (by decide) _ HI0.out (by omega) (by simp; omega)).mono ?_
    rintro e w1 ⟨rfl, h1, f1⟩
    have cA := (fr_box (h := ⟨4, hnn, hs, A, l.length, lc, F, f.length, fc⟩) f1 hbw).2 3 _ rfl
    have HT1 := Lib.hid (HT0.out.go f1.1)
    have HF1 := Lib.hid (HF0.out.trans f1)
    have HI1 := Lib.hid h1
    clear HF0 HI0 HT0 h1 f1
    go_wp2_with fail
    clear cA
    go_loopw [42] (fun iv wr => ∃ (i : Nat), iv = .int .i64 i ∧ i ≤ l.length ∧ PI B b w wr (o ++ 91 :: jsL (l.take i) false)) (fun iv _ => l.length - (intOf iv).toNat)
    case atStart => exact ⟨0, rfl, Nat.zero_le _, builder_eq (by simp only [List.take_zero, jsL]; rfl) HI1.out, HF1.out⟩
    case round =>
      obtain ⟨i, rfl, hi, hpi, hpf⟩ := hrel
      have HPI := Lib.hid hpi
      have HPF := Lib.hid hpf
      have hbr := builder_lt hpi
      have hBr : B ≤ wr.heap.size := Nat.le_trans hBw hpf.1.size
      clear hpi hpf
      by_cases hlt : i < l.length
      · obtain ⟨ad, u, rfl, hsa, hbl, hLu, hcell⟩ := Hop.L i _ (List.getElem?_eq_getElem hlt)
        obtain ⟨k0, k1, k2, k3, k4⟩ := hcell.below HPF.out.1 (by rw [adb]; exact HS.out _ hsa)
        have hLu' := Lib.hid (hLu.fr HPF.out.1 HS.out)
        have ihx := Lib.hid (ihl l[i] (List.getElem_mem hlt))
        have HRX := Lib.hid (RL_mem HRL.out (List.getElem_mem hlt))
        have HSX := Lib.hid (ShL_mem HS2.out (List.getElem_mem hlt))
        have hst := jsL_at l i _ (List.getElem?_eq_getElem hlt)
        have hle := jsL_le l (i + 1) false
        have hll := congrArg List.length hst
        simp only [List.length_append] at hll
        rw [hll] at hle
        have HST := Lib.hid hst
        generalize hx : l[i] = x at *
        clear hcell hLu ihl hst hll hx Hop
        obtain ⟨m1, hm1⟩ : ∃ m, m = (jsL (l.take i) false).length := ⟨_, rfl⟩
        obtain ⟨m2, hm2⟩ : ∃ m, m = (cm i).length := ⟨_, rfl⟩
        obtain ⟨m3, hm3⟩ : ∃ m, m = x.js.length := ⟨_, rfl⟩
        rw [← hm1, ← hm2, ← hm3] at hle
        have HM1 := Lib.hid hm1
        have HM2 := Lib.hid hm2
        have HM3 := Lib.hid hm3
        clear hm1 hm2 hm3
        have hbo := Lib.hid (one_more wr (Obj.cells #[.int .i64 u.k, .int .i64 u.n, .string u.s, .slice u.A u.la u.lc, .slice u.F u.lf u.fc] 25))
        go_wp2_with fail
        refine (put_comma B b _ i _ (builder_below HPI.out hbo.out) (by have := HM1.out; simp; omega) (by simp; omega)).mono ?_
        rintro e w2 ⟨rfl, h2, f2⟩
        have hbx := fr_box (h := u) f2 hbr
        have q0 := hbx.2 0 _ rfl
        have q1 := hbx.2 1 _ rfl
        have q2 := hbx.2 2 _ rfl
        have q3 := hbx.2 3 _ rfl
        have q4 := hbx.2 4 _ rfl
        have HF2 := Lib.hid (HPF.out.trans ((Fr.below (b := b) hbo.out hBr).trans f2))
        have HL2 := Lib.hid ((hLu'.out.below hbo.out (Nat.le_refl _)).fr f2.1 HS.out)
        have HI2 := Lib.hid h2
        have HT2 := Lib.hid ((hT.out).go HF2.out.1)
        clear h2 f2 hbx k0 k1 k2 k3 k4
        go_wp2_with fail
        refine (ihx.out S u w2 B b (d - 1) _ HL2.out HS.out HRX.out HSX.out (by have := HM1.out; have := HM2.out; have := HM3.out; simp; omega) HT2.out HI2.out (by have := HF2.out.1.size; omega)).mono ?_
        rintro e w3 ⟨rfl, h3, f3⟩
        have HI3 := Lib.hid h3
        have HF3 := Lib.hid (HF2.out.trans f3)
        clear h3 f3 q0 q1 q2 q3 q4
        go_wp2_with fail
        exact ⟨⟨i + 1, by go_num, by omega, builder_eq (by rw [HST.out]; simp) HI3.out, HF3.out⟩, by simp [intOf]; omega⟩
      · have HE := Lib.hid (show o ++ 91 :: jsL (l.take i) false = o ++ 91 :: jsL l false by rw [List.take_of_length_le (by omega)])
        clear ihl Hop
        go_wp2_with fail
        refine (write_byte B b _ 93 (by decide) _ (builder_eq HE.out HPI.out) (by simp; omega) hBr).mono ?_
        rintro e w2 ⟨rfl, h2, f2⟩
        go_wp2_with fail
        go_end0
        exact ⟨rfl, builder_eq (by rw [HJ.out]; simp) h2, HPF.out.trans f2⟩
  · have HJ := Lib.hid (js_obj (k := 5) (n := hnn) (s := hs) (l := l) (ks := ks) (f := f) rfl)
    generalize (Va.mk 5 hnn hs l ks f).js = J at *
    have hlen' : o.length + (jsF f ks false).length + 2 ≤ 4294000000 := by have := congrArg List.length HJ.out; simp at this; omega
    clear ihl hlen
    go_enter Tryd.func16, Tryd.ntmps16
    go_wp2_with fail
    refine (write_byte B b o 123 (by decide) _ HI0.out (by omega) (by simp; omega)).mono ?_
    rintro e w1 ⟨rfl, h1, f1⟩
    have cA := (fr_box (h := ⟨5, hnn, hs, A, l.length, lc, F, f.length, fc⟩) f1 hbw).2 4 _ rfl
    have HF1 := Lib.hid (HF0.out.trans f1)
    have HI1 := Lib.hid h1
    clear HF0 HI0 HT0 h1 f1
    go_wp2_with fail
    clear cA
    go_loopw [63] (fun iv wr => ∃ (i : Nat), iv = .int .i64 i ∧ i ≤ f.length ∧ PI B b w wr (o ++ 123 :: jsF (f.take i) ks false)) (fun iv _ => f.length - (intOf iv).toNat)
    case atStart => exact ⟨0, rfl, Nat.zero_le _, builder_eq (by simp only [List.take_zero, jsF]; rfl) HI1.out, HF1.out⟩
    case round =>
      obtain ⟨i, rfl, hi, hpi, hpf⟩ := hrel
      have HPI := Lib.hid hpi
      have HPF := Lib.hid hpf
      have hbr := builder_lt hpi
      have hBr : B ≤ wr.heap.size := Nat.le_trans hBw hpf.1.size
      clear hpi hpf
      by_cases hlt : i < f.length
      · obtain ⟨ad, u, key, rfl, hsa, hbl, hkey, _, hLu, hcell⟩ := Hop.K i _ (List.getElem?_eq_getElem hlt)
        obtain ⟨k0, k1, k2, k3, k4, k5⟩ := hcell.below HPF.out.1 (by rw [adb]; exact HS.out _ hsa)
        have hLu' := Lib.hid (hLu.fr HPF.out.1 HS.out)
        have ihx := Lib.hid (ihf f[i] (List.getElem_mem hlt))
        have HRX := Lib.hid (RL_mem HRF.out (List.getElem_mem hlt))
        have HSX := Lib.hid (ShL_mem HS4.out (List.getElem_mem hlt))
        have HKR := Lib.hid (HKEYS.out.1 key (List.mem_of_getElem? hkey))
        have hks : key.size ≤ 500 := HS3.out key (List.mem_of_getElem? hkey)
        have hst := jsF_at f ks i _ key (List.getElem?_eq_getElem hlt) hkey
        have hle := jsF_le f ks (i + 1) false
        have hll := congrArg List.length hst
        simp only [List.length_append, List.length_cons] at hll
        rw [hll] at hle
        have HST := Lib.hid hst
        generalize hx : f[i] = x at *
        clear hcell hLu ihf hst hll hx Hop hkey
        obtain ⟨m1, hm1⟩ : ∃ m, m = (jsF (f.take i) ks false).length := ⟨_, rfl⟩
        obtain ⟨m2, hm2⟩ : ∃ m, m = (cm i).length := ⟨_, rfl⟩
        obtain ⟨m3, hm3⟩ : ∃ m, m = x.js.length := ⟨_, rfl⟩
        obtain ⟨m4, hm4⟩ : ∃ m, m = (qL key.data.toList).length := ⟨_, rfl⟩
        rw [← hm1, ← hm2, ← hm3, ← hm4] at hle
        have HM1 := Lib.hid hm1
        have HM2 := Lib.hid hm2
        have HM3 := Lib.hid hm3
        have HM4 := Lib.hid hm4
        clear hm1 hm2 hm3 hm4
        have hbo := Lib.hid (one_more wr (Obj.cells #[.string key, .int .i64 u.k, .int .i64 u.n, .string u.s, .slice u.A u.la u.lc, .slice u.F u.lf u.fc] 48))
        go_wp2_with fail
        refine (put_comma B b _ i _ (builder_below HPI.out hbo.out) (by have := HM1.out; simp; omega) (by simp; omega)).mono ?_
        rintro e w2 ⟨rfl, h2, f2⟩
        have HFA := Lib.hid f2
        have hbx := fr_box6 (key := key) (h := u) f2 hbr
        have q0 := hbx.1
        have HF2 := Lib.hid (HPF.out.trans ((Fr.below (b := b) hbo.out hBr).trans f2))
        have HL2 := Lib.hid ((hLu'.out.below hbo.out (Nat.le_refl _)).fr f2.1 HS.out)
        have HI2 := Lib.hid h2
        have HT2 := Lib.hid ((hT.out).go HF2.out.1)
        clear h2 f2 hbx k0 k1 k2 k3 k4 k5
        go_wp2_with fail
        refine (put_quoted B b _ key w2 hks HKR.out HT2.out HI2.out (by have := HM1.out; have := HM2.out; simp; omega) (by have := HF2.out.1.size; omega)).mono ?_
        rintro e w3 ⟨rfl, h3, f3⟩
        have HFB := Lib.hid (HFA.out.trans f3)
        have HF3 := Lib.hid (HF2.out.trans f3)
        have HL3 := Lib.hid (HL2.out.fr f3.1 HS.out)
        have HI3 := Lib.hid h3
        clear h3 f3 q0 HF2 HL2 HI2 HT2 HFA
        go_wp2_with fail
        refine (write_byte B b _ 58 (by decide) _ HI3.out (by have := HM1.out; have := HM2.out; have := HM4.out; simp; omega) (by have := HF3.out.1.size; omega)).mono ?_
        rintro e w4 ⟨rfl, h4, f4⟩
        obtain ⟨q0, q1, q2, q3, q4, q5⟩ := fr_box6 (key := key) (h := u) (HFB.out.trans f4) hbr
        have HF4 := Lib.hid (HF3.out.trans f4)
        have HL4 := Lib.hid (HL3.out.fr f4.1 HS.out)
        have HI4 := Lib.hid h4
        have HT4 := Lib.hid ((hT.out).go HF4.out.1)
        clear h4 f4 HF3 HL3 HI3 HFB
        go_wp2_with fail
        refine (ihx.out S u w4 B b (d - 1) _ HL4.out HS.out HRX.out HSX.out (by have := HM1.out; have := HM2.out; have := HM3.out; have := HM4.out; simp; omega) HT4.out HI4.out (by have := HF4.out.1.size; omega)).mono ?_
        rintro e w5 ⟨rfl, h5, f5⟩
        have HI5 := Lib.hid h5
        have HF5 := Lib.hid (HF4.out.trans f5)
        clear h5 f5 q0 q1 q2 q3 q4 q5
        go_wp2_with fail
        exact ⟨⟨i + 1, by go_num, by omega, builder_eq (by rw [HST.out]; simp) HI5.out, HF5.out⟩, by simp [intOf]; omega⟩
      · have HE := Lib.hid (show o ++ 123 :: jsF (f.take i) ks false = o ++ 123 :: jsF f ks false by rw [List.take_of_length_le (by omega)])
        clear ihf Hop
        go_wp2_with fail
        refine (write_byte B b _ 125 (by decide) _ (builder_eq HE.out HPI.out) (by simp; omega) hBr).mono ?_
        rintro e w2 ⟨rfl, h2, f2⟩
        go_wp2_with fail
        go_end0
        exact ⟨rfl, builder_eq (by rw [HJ.out]; simp) h2, HPF.out.trans f2⟩
end Go.Proofs.YtbinmhcjadkmgaaDoor
