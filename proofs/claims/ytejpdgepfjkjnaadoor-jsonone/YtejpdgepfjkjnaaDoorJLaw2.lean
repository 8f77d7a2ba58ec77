/- JsonOne, walked. -/
import Derived.Test.YtejpdgepfjkjnaaDoorJLaw1
import Derived.Test.YtejpdgepfjkjnaaDoorJInj
set_option linter.unusedVariables false
set_option linter.unusedSimpArgs false
namespace Go.Proofs.YtejpdgepfjkjnaaDoor
open Go.RowKit
theorem js_ne {a : Va} {d : Nat} (h : a.R d) : (⟨a.js.toArray⟩ : ByteArray).toList.isEmpty = false := by
  obtain ⟨c, t, e, -⟩ := js_first' h
  rw [e]
  exact ne_empty (by show (c :: t).toArray.size ≠ 0; simp)
theorem js_size {a : Va} {d : Nat} (h : a.R d) : (⟨a.js.toArray⟩ : ByteArray).size ≠ 0 := by
  obtain ⟨c, t, e, -⟩ := js_first' h
  rw [e]
  show (c :: t).toArray.size ≠ 0
  simp
set_option maxHeartbeats 1000000 in
set_option maxRecDepth 100000 in
theorem JsonOne.walk (W : World) (hT : Tabs W) (a : Va) (h : Hd) (H : Lies W (fun _ => True) a h) (b : Va) (g : Hd) (G : Lies W (fun _ => True) b g) : Calls Tryd.prog 6 #[h.val, g.val] W (jends W) := by
  have HT := Lib.hid hT
  have HL := Lib.hid H
  have GL := Lib.hid G
  have HW := Lib.hid (lies_W a _ h W H)
  have GW := Lib.hid (lies_W b _ g W G)
  clear hT H G
  have HB0 := Lib.hid (show Below W.heap.size W ((W.alloc (Obj.cells #[.int .i64 h.k, .int .i64 h.n, .string h.s, .slice h.A h.la h.lc, .slice h.F h.lf h.fc] 25)).alloc (Obj.cells #[.int .i64 g.k, .int .i64 g.n, .string g.s, .slice g.A g.la g.lc, .slice g.F g.lf g.fc] 25)) from ((Below.refl _ _).alloc (Nat.le_refl _) _).alloc (by simp) _)
  have HX0 := Lib.hid ((Bx.start W h 25).alloc (Obj.cells #[.int .i64 g.k, .int .i64 g.n, .string g.s, .slice g.A g.la g.lc, .slice g.F g.lf g.fc] 25))
  have HY0 := Lib.hid (Bx.start' (W.alloc (Obj.cells #[.int .i64 h.k, .int .i64 h.n, .string h.s, .slice h.A h.la h.lc, .slice h.F h.lf h.fc] 25)) g 25 (N := W.heap.size + 1) (by simp))
  unfold Hd.val
  go_enter Tryd.func6, Tryd.ntmps6
  go_wp2_with fail
  refine (awake_any _ (HT.out.go HB0.out)).mono ?_
  rintro e w1 ⟨rfl, hb1⟩
  have HB1 := Lib.hid (HB0.out.trans (hb1.mono HB0.out.size))
  have HX1 := Lib.hid (HX0.out.go hb1 HX0.out.1)
  have HY1 := Lib.hid (HY0.out.go hb1 HY0.out.1)
  clear hb1
  have K := few_ref a _ h w1 (HL.out.below HB1.out (Nat.le_refl _))
  unfold Hd.val at K
  have K := Lib.hid K
  have q0 := HX1.out.2 0 _ rfl
  have q1 := HX1.out.2 1 _ rfl
  have q2 := HX1.out.2 2 _ rfl
  have q3 := HX1.out.2 3 _ rfl
  have q4 := HX1.out.2 4 _ rfl
  have p0 := HY1.out.2 0 _ rfl
  have p1 := HY1.out.2 1 _ rfl
  have p2 := HY1.out.2 2 _ rfl
  have p3 := HY1.out.2 3 _ rfl
  have p4 := HY1.out.2 4 _ rfl
  go_wp2_with fail
  refine K.out.mono ?_
  rintro e w2 ⟨r, rfl, hr, hb2⟩
  clear K q0 q1 q2 q3 q4 p0 p1 p2 p3 p4
  have HB2 := Lib.hid (HB1.out.trans (hb2.mono HB1.out.size))
  have HX2 := Lib.hid (HX1.out.go hb2 HX1.out.1)
  have HY2 := Lib.hid (HY1.out.go hb2 HY1.out.1)
  clear hb2
  cases r
  · clear hr
    go_wp2_with fail
    refine (awake_any _ (HT.out.go HB2.out)).mono ?_
    rintro e w9 ⟨rfl, hb9⟩
    have HB9 := Lib.hid (HB2.out.trans (hb9.mono HB2.out.size))
    clear hb9
    go_wp2_with fail
    go_ret
    exact ⟨rfl, HB9.out⟩
  obtain ⟨hsh, hcn⟩ := hr rfl
  have HSH := Lib.hid hsh
  have HCN := Lib.hid hcn
  clear hsh hcn hr
  have K := few_ref b _ g w2 (GL.out.below HB2.out (Nat.le_refl _))
  unfold Hd.val at K
  have K := Lib.hid K
  have q0 := HX2.out.2 0 _ rfl
  have q1 := HX2.out.2 1 _ rfl
  have q2 := HX2.out.2 2 _ rfl
  have q3 := HX2.out.2 3 _ rfl
  have q4 := HX2.out.2 4 _ rfl
  have p0 := HY2.out.2 0 _ rfl
  have p1 := HY2.out.2 1 _ rfl
  have p2 := HY2.out.2 2 _ rfl
  have p3 := HY2.out.2 3 _ rfl
  have p4 := HY2.out.2 4 _ rfl
  go_wp2_with fail
  refine K.out.mono ?_
  rintro e w3 ⟨r, rfl, hr, hb3⟩
  clear K q0 q1 q2 q3 q4 p0 p1 p2 p3 p4
  have HB3 := Lib.hid (HB2.out.trans (hb3.mono HB2.out.size))
  have HX3 := Lib.hid (HX2.out.go hb3 HX2.out.1)
  have HY3 := Lib.hid (HY2.out.go hb3 HY2.out.1)
  clear hb3
  cases r
  · clear hr
    go_wp2_with fail
    refine (awake_any _ (HT.out.go HB3.out)).mono ?_
    rintro e w9 ⟨rfl, hb9⟩
    have HB9 := Lib.hid (HB3.out.trans (hb9.mono HB3.out.size))
    clear hb9
    go_wp2_with fail
    go_ret
    exact ⟨rfl, HB9.out⟩
  obtain ⟨hsh, hcn⟩ := hr rfl
  have GSH := Lib.hid hsh
  have GCN := Lib.hid hcn
  clear hsh hcn hr
  have K := rightref a _ h w3 (HL.out.below HB3.out (Nat.le_refl _)) HSH.out
  unfold Hd.val at K
  have K := Lib.hid K
  have q0 := HX3.out.2 0 _ rfl
  have q1 := HX3.out.2 1 _ rfl
  have q2 := HX3.out.2 2 _ rfl
  have q3 := HX3.out.2 3 _ rfl
  have q4 := HX3.out.2 4 _ rfl
  have p0 := HY3.out.2 0 _ rfl
  have p1 := HY3.out.2 1 _ rfl
  have p2 := HY3.out.2 2 _ rfl
  have p3 := HY3.out.2 3 _ rfl
  have p4 := HY3.out.2 4 _ rfl
  go_wp2_with fail
  refine K.out.mono ?_
  rintro e w4 ⟨r, rfl, hr, hb4⟩
  clear K q0 q1 q2 q3 q4 p0 p1 p2 p3 p4
  have HB4 := Lib.hid (HB3.out.trans (hb4.mono HB3.out.size))
  have HX4 := Lib.hid (HX3.out.go hb4 HX3.out.1)
  have HY4 := Lib.hid (HY3.out.go hb4 HY3.out.1)
  clear hb4
  cases r
  · clear hr
    go_wp2_with fail
    refine (awake_any _ (HT.out.go HB4.out)).mono ?_
    rintro e w9 ⟨rfl, hb9⟩
    have HB9 := Lib.hid (HB4.out.trans (hb9.mono HB4.out.size))
    clear hb9
    go_wp2_with fail
    go_ret
    exact ⟨rfl, HB9.out⟩
  have HR := Lib.hid (hr.1 rfl)
  clear hr
  have K := rightref b _ g w4 (GL.out.below HB4.out (Nat.le_refl _)) GSH.out
  unfold Hd.val at K
  have K := Lib.hid K
  have q0 := HX4.out.2 0 _ rfl
  have q1 := HX4.out.2 1 _ rfl
  have q2 := HX4.out.2 2 _ rfl
  have q3 := HX4.out.2 3 _ rfl
  have q4 := HX4.out.2 4 _ rfl
  have p0 := HY4.out.2 0 _ rfl
  have p1 := HY4.out.2 1 _ rfl
  have p2 := HY4.out.2 2 _ rfl
  have p3 := HY4.out.2 3 _ rfl
  have p4 := HY4.out.2 4 _ rfl
  go_wp2_with fail
  refine K.out.mono ?_
  rintro e w5 ⟨r, rfl, hr, hb5⟩
  clear K q0 q1 q2 q3 q4 p0 p1 p2 p3 p4
  have HB5 := Lib.hid (HB4.out.trans (hb5.mono HB4.out.size))
  have HX5 := Lib.hid (HX4.out.go hb5 HX4.out.1)
  have HY5 := Lib.hid (HY4.out.go hb5 HY4.out.1)
  clear hb5
  cases r
  · clear hr
    go_wp2_with fail
    refine (awake_any _ (HT.out.go HB5.out)).mono ?_
    rintro e w9 ⟨rfl, hb9⟩
    have HB9 := Lib.hid (HB5.out.trans (hb9.mono HB5.out.size))
    clear hb9
    go_wp2_with fail
    go_ret
    exact ⟨rfl, HB9.out⟩
  have GR := Lib.hid (hr.1 rfl)
  clear hr
  obtain ⟨J, hJ⟩ : ∃ J : ByteArray, J = ⟨a.js.toArray⟩ := ⟨_, rfl⟩
  obtain ⟨I, hI⟩ : ∃ I : ByteArray, I = ⟨b.js.toArray⟩ := ⟨_, rfl⟩
  have hJ0 : J.size ≠ 0 := by rw [hJ]; exact js_size HR.out
  have hJ1 := ne_empty hJ0
  have HJ := Lib.hid hJ
  have HI := Lib.hid hI
  clear hJ hI
  have K := encode_yes a h w5 (HL.out.below HB5.out (Nat.le_refl _)) HR.out HSH.out HCN.out (HT.out.go HB5.out)
  rw [← HJ.out] at K
  unfold Hd.val at K
  have K := Lib.hid K
  have q0 := HX5.out.2 0 _ rfl
  have q1 := HX5.out.2 1 _ rfl
  have q2 := HX5.out.2 2 _ rfl
  have q3 := HX5.out.2 3 _ rfl
  have q4 := HX5.out.2 4 _ rfl
  have p0 := HY5.out.2 0 _ rfl
  have p1 := HY5.out.2 1 _ rfl
  have p2 := HY5.out.2 2 _ rfl
  have p3 := HY5.out.2 3 _ rfl
  have p4 := HY5.out.2 4 _ rfl
  go_wp2_with fail
  refine K.out.mono ?_
  rintro e w6 ⟨rfl, hb6⟩
  clear K q0 q1 q2 q3 q4 p0 p1 p2 p3 p4
  have HB6 := Lib.hid (HB5.out.trans (hb6.mono HB5.out.size))
  have HX6 := Lib.hid (HX5.out.go hb6 HX5.out.1)
  have HY6 := Lib.hid (HY5.out.go hb6 HY5.out.1)
  clear hb6
  have K := encode_yes b g w6 (GL.out.below HB6.out (Nat.le_refl _)) GR.out GSH.out GCN.out (HT.out.go HB6.out)
  rw [← HI.out] at K
  unfold Hd.val at K
  have K := Lib.hid K
  have q0 := HX6.out.2 0 _ rfl
  have q1 := HX6.out.2 1 _ rfl
  have q2 := HX6.out.2 2 _ rfl
  have q3 := HX6.out.2 3 _ rfl
  have q4 := HX6.out.2 4 _ rfl
  have p0 := HY6.out.2 0 _ rfl
  have p1 := HY6.out.2 1 _ rfl
  have p2 := HY6.out.2 2 _ rfl
  have p3 := HY6.out.2 3 _ rfl
  have p4 := HY6.out.2 4 _ rfl
  go_wp2_with fail
  refine K.out.mono ?_
  rintro e w7 ⟨rfl, hb7⟩
  clear K q0 q1 q2 q3 q4 p0 p1 p2 p3 p4
  have HB7 := Lib.hid (HB6.out.trans (hb7.mono HB6.out.size))
  have HX7 := Lib.hid (HX6.out.go hb7 HX6.out.1)
  have HY7 := Lib.hid (HY6.out.go hb7 HY6.out.1)
  clear hb7
  have K := same_ref a b _ _ h g w7 (HL.out.below HB7.out (Nat.le_refl _)) (GL.out.below HB7.out (Nat.le_refl _))
  unfold Hd.val at K
  have K := Lib.hid K
  have q0 := HX7.out.2 0 _ rfl
  have q1 := HX7.out.2 1 _ rfl
  have q2 := HX7.out.2 2 _ rfl
  have q3 := HX7.out.2 3 _ rfl
  have q4 := HX7.out.2 4 _ rfl
  have p0 := HY7.out.2 0 _ rfl
  have p1 := HY7.out.2 1 _ rfl
  have p2 := HY7.out.2 2 _ rfl
  have p3 := HY7.out.2 3 _ rfl
  have p4 := HY7.out.2 4 _ rfl
  go_wp2_with fail
  refine K.out.mono ?_
  rintro e w8 ⟨r, rfl, hr, hb8⟩
  clear K q0 q1 q2 q3 q4 p0 p1 p2 p3 p4
  have HB8 := Lib.hid (HB7.out.trans (hb8.mono HB7.out.size))
  have HX8 := Lib.hid (HX7.out.go hb8 HX7.out.1)
  have HY8 := Lib.hid (HY7.out.go hb8 HY7.out.1)
  clear hb8
  have hrr : r = (J.toList == I.toList) := by
    cases r
    · have hne : ¬ J = I := fun e9 => by
        have e2 : a.js = b.js := by
          rw [HJ.out, HI.out] at e9
          injection e9 with e9
          exact List.toArray_inj e9
        have := hr.2 (js_inj HR.out HW.out GR.out GW.out e2)
        cases this
      rw [bytes_ne hne]
    · have e := hr.1 rfl
      rw [bytes_eq (by rw [HJ.out, HI.out, e])]
  subst hrr
  clear hr
  go_wp2_with fail
  go_ret
  exact ⟨rfl, HB8.out⟩
end Go.Proofs.YtejpdgepfjkjnaaDoor
