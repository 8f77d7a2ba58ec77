/- 'cascadelaw03.TreeWith' returns true at every input, and leaves it as it was: tree.With tells of all objects, keys and values what the document's own answers tell. No condition. -/
import Derived.Test.YtfcbbafdknobeaaRows
import Derived.Test.YtfcbbafdknobeaaTWithPr
import Derived.ProofKit
import Derived.OpenShut
import Derived.ShutString
import Derived.ChangeOld
set_option linter.unusedVariables false
set_option linter.unusedSimpArgs false
namespace Go.Proofs.Ytfcbbafdknobeaa.treeWith
open Go.ChangeShapes Go.WideShapes Go.ChangeAt Go.RowKit
open Go.ChangeMaps (open_string shut_string)
theorem Below_next {w w1 w2 : World} (h : Below w.heap.size w w1) (k : Below w1.heap.size w1 w2) : Below w.heap.size w w2 := h.trans (k.mono h.size)
def ends (W : World) (e : Ending) (w' : World) : Prop := e = .returned (.bool true) ∧ Below W.heap.size W w'
/-- The two arguments' boxes. -/
structure TwoB (w : World) (h hx : Hd) (wr : World) : Prop where
  bel : Below w.heap.size w wr
  bv : Bx wr w.heap.size h
  bx : Bx wr (w.heap.size + 1) hx
  sz : w.heap.size + 2 ≤ wr.heap.size
theorem TwoB.go {w wr wr' : World} {h hx : Hd} (H : TwoB w h hx wr) (hb : Below wr.heap.size wr wr') : TwoB w h hx wr' :=
  ⟨H.bel.trans (hb.mono H.bel.size), H.bv.go hb H.bv.1, H.bx.go hb H.bx.1, Nat.le_trans H.sz hb.size⟩
theorem TwoB.start (w : World) (h hx : Hd) : TwoB w h hx ((w.alloc (Obj.cells #[.int .i64 h.k, .int .i64 h.n, .string h.s, .slice h.A h.la h.lc, .slice h.F h.lf h.fc] 25)).alloc (Obj.cells #[.int .i64 hx.k, .int .i64 hx.n, .string hx.s, .slice hx.A hx.la hx.lc, .slice hx.F hx.lf hx.fc] 25)) :=
  ⟨two_allocs w _ _, (Bx.start w h 25).alloc _, Bx.start' _ hx 25 (by simp), by simp⟩
theorem sh_W {k n : Int} {s : ByteArray} {l : List Va} {ks : List ByteArray} {f : List Va} {x : Va} {key : ByteArray} (h : (Va.mk k n s l ks f).Sh) (hx : x.Sh) (hk : key.size ≤ 500) (hnd : ks.Nodup) (hl : ks.length = f.length) : (Va.mk k n s l (ksW ks key) (fW ks f key x)).Sh := by
  by_cases hin : key ∈ ks
  · obtain ⟨i, hi⟩ := List.mem_iff_getElem?.1 hin
    have := fW_set (x := x) hnd hi hl
    rw [this.1, this.2]
    exact (sh_put h hx i).1
  · have := fW_app (x := x) hin hl
    rw [this.1, this.2]
    exact (sh_app h hx hk).1
set_option maxHeartbeats 2000000 in
set_option maxRecDepth 100000 in
theorem walk (W : World) (a : Va) (h : Hd) (H : Lies W (fun _ => True) a h) (key : ByteArray) (hkm : key.size ≤ maxLen) (x : Va) (hx : Hd) (HX : Lies W (fun _ => True) x hx) : Calls Try.prog 6 #[h.val, .string key, hx.val] W fun e w' => e = .returned (.bool true) ∧ Below W.heap.size W w' := by
  show Calls Try.prog 6 #[h.val, .string key, hx.val] W (ends W)
  obtain ⟨k, n, s, l, ks, f⟩ := a
  have HH := Lib.hid H
  have HXX := Lib.hid HX
  have htop := H
  simp only [Lies] at htop
  obtain ⟨⟨e1, e2, e3, e4, e5, e6⟩, ⟨-, -, -, hksm, -⟩, -, -⟩ := htop
  have E1 := Lib.hid e1
  have E6 := Lib.hid e6
  have HKSM := Lib.hid hksm
  clear H HX e1 e2 e3 e4 e5 e6 hksm
  have HT0 := Lib.hid (TwoB.start W h hx)
  have hw0 := awake_any ((W.alloc (Obj.cells #[.int .i64 h.k, .int .i64 h.n, .string h.s, .slice h.A h.la h.lc, .slice h.F h.lf h.fc] 25)).alloc (Obj.cells #[.int .i64 hx.k, .int .i64 hx.n, .string hx.s, .slice hx.A hx.la hx.lc, .slice hx.F hx.lf hx.fc] 25))
  have HW0 := Lib.hid hw0
  clear hw0
  unfold Hd.val at *
  go_enter Try.func6, Try.ntmps6
  go_wp2_with fail
  refine HW0.out.mono ?_
  rintro e w1 ⟨rfl, hb1⟩
  have HT1 := Lib.hid (HT0.out.go hb1)
  clear hb1 HT0 HW0
  have q0 := HT1.out.bv.2 0 _ rfl
  have q1 := HT1.out.bv.2 1 _ rfl
  have q2 := HT1.out.bv.2 2 _ rfl
  have q3 := HT1.out.bv.2 3 _ rfl
  have q4 := HT1.out.bv.2 4 _ rfl
  go_wp2_with fail
  refine (few_ref _ _ h w1 (HH.out.below HT1.out.bel (Nat.le_refl _))).mono ?_
  rintro e w2 ⟨r, rfl, hr, hb2⟩
  have HT2 := Lib.hid (HT1.out.go hb2)
  have HR := Lib.hid hr
  clear q0 q1 q2 q3 q4 hb2 hr HT1
  cases r
  · go_wp2_with fail
    refine (awake_any w2).mono ?_
    rintro e wz ⟨rfl, hbz⟩
    go_wp2_with fail
    go_ret
    exact ⟨rfl, Below_next HT2.out.bel hbz⟩
  obtain ⟨hsh, hcn⟩ := HR.out rfl
  have HSH := Lib.hid hsh
  have HCN := Lib.hid hcn
  have hfl : Hid (f.length ≤ 1000) := by
    have h1 := len_le_cntL f
    simp only [Va.cnt] at hcn
    show f.length ≤ 1000
    omega
  clear hsh HR hcn
  have q0 := HT2.out.bx.2 0 _ rfl
  have q1 := HT2.out.bx.2 1 _ rfl
  have q2 := HT2.out.bx.2 2 _ rfl
  have q3 := HT2.out.bx.2 3 _ rfl
  have q4 := HT2.out.bx.2 4 _ rfl
  go_wp2_with fail
  refine (few_ref _ _ hx w2 (HXX.out.below HT2.out.bel (Nat.le_refl _))).mono ?_
  rintro e w3 ⟨r, rfl, hr, hb3⟩
  have HT3 := Lib.hid (HT2.out.go hb3)
  have HR := Lib.hid hr
  clear q0 q1 q2 q3 q4 hb3 hr HT2
  cases r
  · go_wp2_with fail
    refine (awake_any w3).mono ?_
    rintro e wz ⟨rfl, hbz⟩
    go_wp2_with fail
    go_ret
    exact ⟨rfl, Below_next HT3.out.bel hbz⟩
  obtain ⟨hsh, hcn⟩ := HR.out rfl
  have HSX := Lib.hid hsh
  have HCX := Lib.hid hcn
  clear hsh HR hcn
  by_cases hk5 : 500 < key.size
  · go_wp2_with fail
    refine (awake_any w3).mono ?_
    rintro e wz ⟨rfl, hbz⟩
    go_wp2_with fail
    go_ret
    exact ⟨rfl, Below_next HT3.out.bel hbz⟩
  have q0 := HT3.out.bv.2 0 _ rfl
  have q1 := HT3.out.bv.2 1 _ rfl
  have q2 := HT3.out.bv.2 2 _ rfl
  have q3 := HT3.out.bv.2 3 _ rfl
  have q4 := HT3.out.bv.2 4 _ rfl
  have y0 := HT3.out.bx.2 0 _ rfl
  have y1 := HT3.out.bx.2 1 _ rfl
  have y2 := HT3.out.bx.2 2 _ rfl
  have y3 := HT3.out.bx.2 3 _ rfl
  have y4 := HT3.out.bx.2 4 _ rfl
  go_wp2_with fail
  refine (with_prog k n s l ks f x _ _ h hx key w3 (HH.out.below HT3.out.bel (Nat.le_refl _)) (HXX.out.below HT3.out.bel (Nat.le_refl _)) HSH.out HCN.out HSX.out HCX.out (by omega)).mono ?_
  rintro e w4 ⟨b, h', er, rfl, hlies, hb4, hn1, hn5, hn0⟩
  have HN := Lib.hid hn1
  have HN5 := Lib.hid hn5
  have HN0 := Lib.hid hn0
  have HT4 := Lib.hid (HT3.out.go hb4)
  have HL4 := Lib.hid hlies
  clear hn1 hn5 hn0 hb4 hlies HT3 q0 q1 q2 q3 q4 y0 y1 y2 y3 y4
  have hsz4 := HT4.out.sz
  have hB0 : W.heap.size < w4.heap.size := by omega
  have q0 := HT4.out.bv.2 0 _ rfl
  have hb5 : Below w4.heap.size w4 (w4.alloc (Obj.cells #[.int .i64 h'.k, .int .i64 h'.n, .string h'.s, .slice h'.A h'.la h'.lc, .slice h'.F h'.lf h'.fc] 25)) := one_alloc w4 _
  have hc7 := Bx.start w4 h' 25
  have HT := Lib.hid (HT4.out.go hb5)
  have HL := Lib.hid (HL4.out.below hb5 (Nat.le_refl _))
  have HC := Lib.hid hc7
  clear hb5 hc7 HL4
  by_cases hk : h.k = 5
  case neg =>
    have hk' : (h.k != 5) = true := by simpa using hk
    have HK := Lib.hid hk
    clear hk
    obtain ⟨rfl, hbz0⟩ := HN.out (fun q => HK.out q.1)
    have HBZ := Lib.hid hbz0
    clear hbz0
    have HLz := Lib.hid (HBZ.out ▸ HL.out)
    clear HL
    have hmain : True := trivial
    go_wp2_with fail
    refine (zero_law zeroVa _ h' _ HLz.out).mono ?_
    rintro e wz ⟨r, rfl, hr, hbz⟩
    obtain rfl : r = true := hr.2 rfl
    clear hr
    go_wp2_with fail
    go_ret
    exact ⟨rfl, Below_next HT.out.bel hbz⟩
  have hk' : (h.k != 5) = false := by simp [hk]
  have HK := Lib.hid hk
  have q1 := HT4.out.bv.2 1 _ rfl
  have q2 := HT4.out.bv.2 2 _ rfl
  have q3 := HT4.out.bv.2 3 _ rfl
  have q4 := HT4.out.bv.2 4 _ rfl
  clear hk
  go_wp2_with fail
  generalize w4.alloc (Obj.cells #[.int .i64 h'.k, .int .i64 h'.n, .string h'.s, .slice h'.A h'.la h'.lc, .slice h'.F h'.lf h'.fc] 25) = w5 at HT HL HC ⊢
  clear q0 q1 q2 q3 q4 HT4 hB0 hk'
  have hW5 : Hid (w4.heap.size < w5.heap.size) := HC.out.1
  refine (rightref _ _ h w5 (HH.out.below HT.out.bel (Nat.le_refl _)) HSH.out).mono ?_
  rintro e w6 ⟨r, rfl, hr, hb6⟩
  have HT6 := Lib.hid (HT.out.go hb6)
  have HL6 := Lib.hid (HL.out.below hb6 (Nat.le_refl _))
  have HC6 := Lib.hid (HC.out.go hb6 HC.out.1)
  have HR := Lib.hid hr
  clear hb6 hr HT HL HC
  cases r
  · have HT := HT6
    have HL := HL6
    have HC := HC6
    obtain ⟨rfl, hbz0⟩ := HN.out (fun q => by have := HR.out.2 q.2.1; cases this)
    have HBZ := Lib.hid hbz0
    clear hbz0
    have HLz := Lib.hid (HBZ.out ▸ HL.out)
    clear HL
    have p0 := HC.out.2 0 _ rfl
    have p1 := HC.out.2 1 _ rfl
    have p2 := HC.out.2 2 _ rfl
    have p3 := HC.out.2 3 _ rfl
    have p4 := HC.out.2 4 _ rfl
    go_wp2_with fail
    refine (zero_law zeroVa _ h' w6 HLz.out).mono ?_
    rintro e wz ⟨r, rfl, hr, hbz⟩
    obtain rfl : r = true := hr.2 rfl
    clear hr
    go_wp2_with fail
    go_ret
    exact ⟨rfl, Below_next HT.out.bel hbz⟩
  have HRV := Lib.hid (HR.out.1 rfl)
  clear HR
  have q0 := HT6.out.bx.2 0 _ rfl
  have q1 := HT6.out.bx.2 1 _ rfl
  have q2 := HT6.out.bx.2 2 _ rfl
  have q3 := HT6.out.bx.2 3 _ rfl
  have q4 := HT6.out.bx.2 4 _ rfl
  go_wp2_with fail
  refine (rightref _ _ hx w6 (HXX.out.below HT6.out.bel (Nat.le_refl _)) HSX.out).mono ?_
  rintro e w7 ⟨r, rfl, hr, hb7⟩
  have HT7 := Lib.hid (HT6.out.go hb7)
  have HL7 := Lib.hid (HL6.out.below hb7 (Nat.le_refl _))
  have HC7 := Lib.hid (HC6.out.go hb7 HC6.out.1)
  have HR := Lib.hid hr
  clear hb7 hr HT6 HL6 HC6 q0 q1 q2 q3 q4
  cases r
  · have HT := HT7
    have HL := HL7
    have HC := HC7
    obtain ⟨rfl, hbz0⟩ := HN.out (fun q => by have := HR.out.2 q.2.2.2; cases this)
    have HBZ := Lib.hid hbz0
    clear hbz0
    have HLz := Lib.hid (HBZ.out ▸ HL.out)
    clear HL
    have p0 := HC.out.2 0 _ rfl
    have p1 := HC.out.2 1 _ rfl
    have p2 := HC.out.2 2 _ rfl
    have p3 := HC.out.2 3 _ rfl
    have p4 := HC.out.2 4 _ rfl
    go_wp2_with fail
    refine (zero_law zeroVa _ h' w7 HLz.out).mono ?_
    rintro e wz ⟨r, rfl, hr, hbz⟩
    obtain rfl : r = true := hr.2 rfl
    clear hr
    go_wp2_with fail
    go_ret
    exact ⟨rfl, Below_next HT.out.bel hbz⟩
  have HRX := Lib.hid (HR.out.1 rfl)
  clear HR
  go_wp2_with fail
  refine (right_ref key (by omega) w7).mono ?_
  rintro e w7' ⟨rfl, rfl⟩
  cases hrk : rightB key
  · have HRK := Lib.hid hrk
    clear hrk
    have HT := HT7
    have HL := HL7
    have HC := HC7
    obtain ⟨rfl, hbz0⟩ := HN.out (fun q => by have := q.2.2.1; rw [HRK.out] at this; cases this)
    have HBZ := Lib.hid hbz0
    clear hbz0
    have HLz := Lib.hid (HBZ.out ▸ HL.out)
    clear HL
    have p0 := HC.out.2 0 _ rfl
    have p1 := HC.out.2 1 _ rfl
    have p2 := HC.out.2 2 _ rfl
    have p3 := HC.out.2 3 _ rfl
    have p4 := HC.out.2 4 _ rfl
    go_wp2_with fail
    refine (zero_law zeroVa _ h' w7 HLz.out).mono ?_
    rintro e wz ⟨r, rfl, hr, hbz⟩
    obtain rfl : r = true := hr.2 rfl
    clear hr
    go_wp2_with fail
    go_ret
    exact ⟨rfl, Below_next HT.out.bel hbz⟩
  have HRK := Lib.hid hrk
  clear hrk
  have HARG := Lib.hid (show h.k = 5 ∧ (Va.mk k n s l ks f).R 12 ∧ rightB key = true ∧ x.R 12 from ⟨HK.out, HRV.out, HRK.out, HRX.out⟩)
  have hrv := HRV.out
  simp only [Va.R] at hrv
  obtain ⟨-, htp, ⟨-, hnd⟩, -, -⟩ := hrv
  have hk5' : k = 5 := E1.out.symm.trans HK.out
  subst hk5'
  obtain rfl : n = 0 := by have := htp.c1; omega
  obtain rfl : s = ByteArray.empty := empty_of (by have := htp.c2; omega)
  obtain rfl : l = [] := List.length_eq_zero_iff.1 (by have := htp.c3; omega)
  have HND := Lib.hid hnd
  clear htp hnd
  have q0 := HT7.out.bv.2 0 _ rfl
  have q1 := HT7.out.bv.2 1 _ rfl
  have q2 := HT7.out.bv.2 2 _ rfl
  have q3 := HT7.out.bv.2 3 _ rfl
  have q4 := HT7.out.bv.2 4 _ rfl
  have y0 := HT7.out.bx.2 0 _ rfl
  have y1 := HT7.out.bx.2 1 _ rfl
  have y2 := HT7.out.bx.2 2 _ rfl
  have y3 := HT7.out.bx.2 3 _ rfl
  have y4 := HT7.out.bx.2 4 _ rfl
  go_wp2_with fail
  refine (with_ref 5 0 ByteArray.empty [] ks f x _ _ h hx key w7 (HH.out.below HT7.out.bel (Nat.le_refl _)) (HXX.out.below HT7.out.bel (Nat.le_refl _)) HKSM.out hkm hfl.out).mono ?_
  rintro e w8 ⟨hw, rfl, hlw, hb8⟩
  have HT8 := Lib.hid (HT7.out.go hb8)
  have HL8 := Lib.hid (HL7.out.below hb8 (Nat.le_refl _))
  have HC8 := Lib.hid (HC7.out.go hb8 HC7.out.1)
  have HLW := Lib.hid hlw
  clear hb8 hlw HT7 HL7 HC7 q0 q1 q2 q3 q4 y0 y1 y2 y3 y4
  go_wp2_with fail
  have hb9 : Below w8.heap.size w8 (w8.alloc (Obj.cells #[.int .i64 hw.k, .int .i64 hw.n, .string hw.s, .slice hw.A hw.la hw.lc, .slice hw.F hw.lf hw.fc] 25)) := one_alloc w8 _
  have hc9 := Bx.start w8 hw 25
  have HT9 := Lib.hid (HT8.out.go hb9)
  have HL9 := Lib.hid (HL8.out.below hb9 (Nat.le_refl _))
  have HC9 := Lib.hid (HC8.out.go hb9 HC8.out.1)
  have HLW9 := Lib.hid (HLW.out.below hb9 (Nat.le_refl _))
  generalize w8.alloc (Obj.cells #[.int .i64 hw.k, .int .i64 hw.n, .string hw.s, .slice hw.A hw.la hw.lc, .slice hw.F hw.lf hw.fc] 25) = w9 at hb9 hc9 HT9 HL9 HC9 HLW9 ⊢
  have HD9 := Lib.hid hc9
  clear hb9 hc9 HT8 HL8 HC8 HLW
  refine (rightref _ _ hw w9 HLW9.out (sh_W HSH.out HSX.out (by omega) HND.out E6.out)).mono ?_
  rintro e w10 ⟨r, rfl, hr, hb10⟩
  have HT := Lib.hid (HT9.out.go hb10)
  have HL := Lib.hid (HL9.out.below hb10 (Nat.le_refl _))
  have HC := Lib.hid (HC9.out.go hb10 HC9.out.1)
  have HD := Lib.hid (HD9.out.go hb10 HD9.out.1)
  have HLWz := Lib.hid (HLW9.out.below hb10 (Nat.le_refl _))
  have HR := Lib.hid hr
  clear hb10 hr HT9 HL9 HC9 HD9 HLW9
  cases r
  · obtain ⟨rfl, hbz0⟩ := HN5.out HARG.out (fun hR => by have := HR.out.2 hR; cases this)
    have HBZ := Lib.hid hbz0
    clear hbz0
    skip
    have HLz := Lib.hid (HBZ.out ▸ HL.out)
    clear HL
    have p0 := HC.out.2 0 _ rfl
    have p1 := HC.out.2 1 _ rfl
    have p2 := HC.out.2 2 _ rfl
    have p3 := HC.out.2 3 _ rfl
    have p4 := HC.out.2 4 _ rfl
    go_wp2_with fail
    refine (zero_law zeroVa _ h' w10 HLz.out).mono ?_
    rintro e wz ⟨r, rfl, hr, hbz⟩
    obtain rfl : r = true := hr.2 rfl
    clear hr
    go_wp2_with fail
    go_ret
    exact ⟨rfl, Below_next HT.out.bel hbz⟩
  · obtain ⟨rfl, hbz0⟩ := HN0.out HARG.out (HR.out.1 (by first | rfl | trivial))
    have HBZ := Lib.hid hbz0
    clear hbz0
    have p0 := HC.out.2 0 _ rfl
    have p1 := HC.out.2 1 _ rfl
    have p2 := HC.out.2 2 _ rfl
    have p3 := HC.out.2 3 _ rfl
    have p4 := HC.out.2 4 _ rfl
    have y0 := HD.out.2 0 _ rfl
    have y1 := HD.out.2 1 _ rfl
    have y2 := HD.out.2 2 _ rfl
    have y3 := HD.out.2 3 _ rfl
    have y4 := HD.out.2 4 _ rfl
    go_wp2_with fail
    refine (same_ref b _ _ _ h' hw w10 HL.out HLWz.out).mono ?_
    rintro e wz ⟨r, rfl, hr, hbz⟩
    obtain rfl : r = true := hr.2 HBZ.out
    clear hr
    go_wp2_with fail
    go_ret
    exact ⟨rfl, Below_next HT.out.bel hbz⟩
theorem own : ownKnob Try.prog.godebug = none := by kernel_rfl
theorem laidOut : laidOutB Try.prog = true := by kernel_rfl
set_option maxRecDepth 100000 in
theorem lifted (os : Os) (started : os.Started) (H : Type) (enc : TypeId × Value → H) :
    ReturnsInHanded {} Try.checked os 6 .any (Rows.treeWithSpec.pre6 enc Try.prog Try.f6 Rows.treeWithRow.domain false) (Rows.treeWithSpec.post enc Try.prog Try.f6 false true false false) := by
  refine returnsInHanded_of_change (C := Try.checked) own started (by kernel_rfl) Try.func6
    (ChangeSpec.witness6 (enc := enc) (C := Try.checked) false ⟨#[], #[.agg #[.int .i64 0, .int .i64 0, .string ByteArray.empty, .slice none 0 0, .slice none 0 0], .string ByteArray.empty, .agg #[.int .i64 0, .int .i64 0, .string ByteArray.empty, .slice none 0 0, .slice none 0 0]], []⟩ 8 (by kernel_rfl) (by kernel_rfl) (by kernel_rfl) (by kernel_rfl)) ?_
  intro W base args ds gs before hval0 hW hcnd _
  have hval : ∀ (j : Nat) t v, Try.f6.params[j]? = some t → args[j]? = some v → Value.okWide Try.prog W .any base t v := hval0
  have hW' := hW
  obtain ⟨p, q, hA0, hV, rfl, hfz, hnd⟩ := hW
  have hA : DataW.TrodAll enc Try.prog W 0 (fun _ => true) true Try.f6.params.toList args.toList ds p := hA0
  rw [Try.params6] at hA hval
  obtain ⟨v0, vs0, d0, ds0, p0, q0, hargs, rfl, rfl, h0, r0⟩ := trodAll_cons hA
  obtain ⟨v1, vs1, d1, ds1, p1, q1, rfl, rfl, rfl, h1, r1⟩ := trodAll_cons r0
  obtain ⟨v2, vs2, d2, ds2, p2, q2, rfl, rfl, rfl, h2, r2⟩ := trodAll_cons r1
  obtain ⟨rfl, rfl, rfl⟩ := trodAll_nil r2
  obtain rfl : args = #[v0, v1, v2] := by cases args; simp_all
  obtain ⟨rfl, rfl⟩ := trodVars_none hV
  have k0 := h0
  have lt0 : ∀ x ∈ p0, x.block < W.heap.size := by obtain ⟨m, hm⟩ := k0; exact DataW.trod_lt m _ _ _ hm
  obtain ⟨a0, g0, rfl, w0⟩ := open_value (hval 0 25 v0 rfl rfl) h0
  have k1 := h1
  have lt1 : ∀ x ∈ p1, x.block < W.heap.size := by obtain ⟨m, hm⟩ := k1; exact DataW.trod_lt m _ _ _ hm
  obtain ⟨a1, rfl, hd1, hp1, w1⟩ := open_string Try.underlying9 (hval 1 9 v1 rfl rfl) h1
  have k2 := h2
  have lt2 : ∀ x ∈ p2, x.block < W.heap.size := by obtain ⟨m, hm⟩ := k2; exact DataW.trod_lt m _ _ _ hm
  obtain ⟨a2, g2, rfl, w2⟩ := open_value (hval 2 25 v2 rfl rfl) h2
  clear hA0 hval0
  refine (walk W a0 g0 w0 a1 w1 a2 g2 w2).mono fun e W' ⟨he, bel⟩ => ?_
  subst he
  exact ⟨_, rfl, _, _, _, [], _, [], hW', trodAll_mk1 (shut_bool Try.underlying4 _), (trodAll_cons_mk (Below.trod laidOut (by kernel_rfl) (of_decide_eq_true (by kernel_rfl)) k0 bel lt0) (trodAll_cons_mk (Below.trod laidOut (by kernel_rfl) (of_decide_eq_true (by kernel_rfl)) k1 bel lt1) (trodAll_cons_mk (Below.trod laidOut (by kernel_rfl) (of_decide_eq_true (by kernel_rfl)) k2 bel lt2) trodAll_mk0))), rfl, bel.frame _, fun h => by cases h⟩
theorem over : Rows.treeWithRow.holds Try.pinned (OpenSpec.ofChange Rows.treeWithSpec) :=
  OpenClaim.holds_of_wide 6 Try.f6 rfl rfl rfl rfl rfl rfl rfl ⟨rfl, rfl, rfl, rfl, rfl⟩ rfl rfl rfl rfl rfl (by kernel_rfl) Try.func6 (by kernel_rfl)
    (of_decide_eq_true (by kernel_rfl)) (by unfold Func.isWrapper; first | (rw [if_pos (by decide +kernel)]; kernel_rfl) | (rw [if_neg (by decide +kernel)]; exact ⟨rfl, rfl⟩))
    (fun os started H enc _ => lifted os started H enc)
theorem proved : Rows.TreeWithSaid := over
end Go.Proofs.Ytfcbbafdknobeaa.treeWith
namespace Go.Proofs.Ytfcbbafdknobeaa
theorem treeWith_holds : Rows.TreeWithSaid := treeWith.proved
#print axioms treeWith_holds
end Go.Proofs.Ytfcbbafdknobeaa
