/- 'cascadelaw03.TreeGets' returns true at every input, and leaves it as it was: tree.Get tells of all values and keys what the document's own answers tell. No condition. -/
import Derived.Test.YtfcbbafdknobeaaRows
import Derived.Test.YtfcbbafdknobeaaTGet
import Derived.ProofKit
import Derived.OpenShut
import Derived.ShutString
import Derived.ChangeOld
set_option linter.unusedVariables false
set_option linter.unusedSimpArgs false
namespace Go.Proofs.Ytfcbbafdknobeaa.treeGets
open Go.ChangeShapes Go.WideShapes Go.ChangeAt Go.RowKit
open Go.ChangeMaps (open_string shut_string)
theorem Below_next {w w1 w2 : World} (h : Below w.heap.size w w1) (k : Below w1.heap.size w1 w2) : Below w.heap.size w w2 := h.trans (k.mono h.size)
def ends (W : World) (e : Ending) (w' : World) : Prop := e = .returned (.bool true) ∧ Below W.heap.size W w'
set_option maxHeartbeats 1000000 in
set_option maxRecDepth 100000 in
theorem walk (W : World) (a : Va) (h : Hd) (H : Lies W (fun _ => True) a h) (key : ByteArray) (hkm : key.size ≤ maxLen) : Calls Try.prog 5 #[h.val, .string key] W fun e w' => e = .returned (.bool true) ∧ Below W.heap.size W w' := by
  show Calls Try.prog 5 #[h.val, .string key] W (ends W)
  obtain ⟨k, n, s, l, ks, f⟩ := a
  have HH := Lib.hid H
  have Hop := Lib.hid H.op
  simp only [Lies] at H
  obtain ⟨⟨e1, e2, e3, e4, e5, e6⟩, -, -, -⟩ := H
  have E5 := Lib.hid e5
  have E6 := Lib.hid e6
  clear e1 e2 e3 e4 e5 e6
  have hw0 := awake_any (W.alloc (Obj.cells #[.int .i64 h.k, .int .i64 h.n, .string h.s, .slice h.A h.la h.lc, .slice h.F h.lf h.fc] 25))
  have HW0 := Lib.hid hw0
  clear hw0
  unfold Hd.val at *
  go_enter Try.func5, Try.ntmps5
  go_wp2_with fail
  refine HW0.out.mono ?_
  rintro e w1 ⟨rfl, hb1⟩
  have hbx1 := (BoxAt.start W h 25).go hb1 (Nat.le_refl _)
  have HX1 := Lib.hid hbx1
  have q0 := hbx1.2.2 0 _ rfl
  have q1 := hbx1.2.2 1 _ rfl
  have q2 := hbx1.2.2 2 _ rfl
  have q3 := hbx1.2.2 3 _ rfl
  have q4 := hbx1.2.2 4 _ rfl
  clear hb1 hbx1 HW0
  go_wp2_with fail
  refine (few_ref _ _ h w1 (HH.out.below HX1.out.1 (Nat.le_refl _))).mono ?_
  rintro e w2 ⟨r, rfl, hr, hb2⟩
  have hbx2 := HX1.out.go hb2 (Nat.le_refl _)
  have HX2 := Lib.hid hbx2
  clear q0 q1 q2 q3 q4 hb2 HX1
  have HR := Lib.hid hr
  clear hr
  cases r
  · clear hbx2
    go_wp2_with fail
    refine (awake_any w2).mono ?_
    rintro e w3 ⟨rfl, hb3⟩
    go_wp2_with fail
    go_ret
    exact ⟨rfl, Below_next HX2.out.1 hb3⟩
  obtain ⟨hsh, hcn⟩ := HR.out rfl
  have HSH := Lib.hid hsh
  have HCN := Lib.hid hcn
  have hfl : Hid (f.length ≤ 1000) := by
    have h1 := len_le_cntL f
    simp only [Va.cnt] at hcn
    show f.length ≤ 1000
    omega
  clear hsh HR hcn
  by_cases hk5 : 500 < key.size
  · clear hbx2
    go_wp2_with fail
    refine (awake_any w2).mono ?_
    rintro e w3 ⟨rfl, hb3⟩
    go_wp2_with fail
    go_ret
    exact ⟨rfl, Below_next HX2.out.1 hb3⟩
  have q0 := hbx2.2.2 0 _ rfl
  have q1 := hbx2.2.2 1 _ rfl
  have q2 := hbx2.2.2 2 _ rfl
  have q3 := hbx2.2.2 3 _ rfl
  have q4 := hbx2.2.2 4 _ rfl
  clear hbx2
  go_wp2_with fail
  refine (get_prog k n s l ks f _ h key w2 (HH.out.below HX2.out.1 (Nat.le_refl _)) HSH.out (by have := HCN.out; omega)).mono ?_
  rintro e w3 ⟨b, h', T, ok, rfl, hown, -, hb3, hyes, hno⟩
  have HYES := Lib.hid hyes
  have HNO := Lib.hid hno
  have HX3 := Lib.hid (HX2.out.go hb3 (Nat.le_refl _))
  have HL := Lib.hid (Own.lies _ _ _ hown)
  clear hb3 hyes hno hown q0 q1 q2 q3 q4 HX2
  -- whether the key is there decides what Get told
  obtain ⟨hok⟩ : Nonempty (ok = true ∨ ok = false) := ⟨by cases ok <;> simp⟩
  have hOKA : Hid (ok = true → (Va.mk k n s l ks f).R 12 ∧ key ∈ ks) := fun h => by
    obtain ⟨h1, i, hp, hfi⟩ := HYES.out h
    refine ⟨h1, ?_⟩
    rcases hp with ⟨h2, _⟩ | ⟨j, _, h3, _⟩
    · exact absurd h2 (by omega)
    · exact List.mem_of_getElem? h3
  have hN3 := HX3.out.2.1
  have q0 := HX3.out.2.2 0 _ rfl
  have q1 := HX3.out.2.2 1 _ rfl
  have q2 := HX3.out.2.2 2 _ rfl
  have q3 := HX3.out.2.2 3 _ rfl
  have q4 := HX3.out.2.2 4 _ rfl
  go_wp2_with fail
  have hb4 : Below w3.heap.size w3 (w3.alloc (Obj.cells #[.int .i64 h'.k, .int .i64 h'.n, .string h'.s, .slice h'.A h'.la h'.lc, .slice h'.F h'.lf h'.fc] 25)) := (Below.refl _ _).alloc (Nat.le_refl _) _
  have hcx := Bx.start w3 h' 25
  have hbx4 := HX3.out.go hb4 (Nat.le_refl _)
  generalize w3.alloc (Obj.cells #[.int .i64 h'.k, .int .i64 h'.n, .string h'.s, .slice h'.A h'.la h'.lc, .slice h'.F h'.lf h'.fc] 25) = w4 at hb4 hcx hbx4 ⊢
  have HX4 := Lib.hid hbx4
  have HC4 := Lib.hid hcx
  have HL4 := Lib.hid (HL.out.below hb4 (Nat.le_refl _))
  clear hb4 hcx HX3 HL hbx4
  refine (at_ref ks key h w4 (E5.out.trans E6.out.symm) (by have := E6.out; have := hfl.out; omega) ((Hop.out.keys E6.out).below HX4.out.1 (Nat.le_refl _))).mono ?_
  rintro e w5 ⟨m, rfl, hp, hb5⟩
  have HP := Lib.hid hp
  have hbx5 := HX4.out.go hb5 (Nat.le_refl _)
  have HX5 := Lib.hid hbx5
  have HC5 := Lib.hid (HC4.out.go hb5 HC4.out.1)
  have HL5 := Lib.hid (HL4.out.below hb5 (Nat.le_refl _))
  clear hp hb5 q0 q1 q2 q3 q4 HX4 HC4 HL4
  have q0 := hbx5.2.2 0 _ rfl
  have q1 := hbx5.2.2 1 _ rfl
  have q2 := hbx5.2.2 2 _ rfl
  have q3 := hbx5.2.2 3 _ rfl
  have q4 := hbx5.2.2 4 _ rfl
  clear hbx5
  go_wp2_with fail
  refine (rightref _ _ h w5 (HH.out.below HX5.out.1 (Nat.le_refl _)) HSH.out).mono ?_
  rintro e w6 ⟨r, rfl, hr, hb6⟩
  have HR := Lib.hid hr
  have hbx6 := HX5.out.go hb6 (Nat.le_refl _)
  have HC6 := Lib.hid (HC5.out.go hb6 HC5.out.1)
  have HL6 := Lib.hid (HL5.out.below hb6 (Nat.le_refl _))
  clear hr hb6 q0 q1 q2 q3 q4 HX5 HC5 HL5
  cases r
  · have hnr : ¬ (Va.mk k n s l ks f).R 12 := fun h => by have := HR.out.2 h; cases this
    obtain rfl : ok = false := by
      rcases hok with h | h
      · exact absurd (hOKA.out h).1 hnr
      · exact h
    obtain rfl : b = zeroVa := (HNO.out rfl).1
    clear hnr hok
    have HX7 := Lib.hid hbx6
    have HC7 := HC6
    clear hbx6
    have p0 := HC7.out.2 0 _ rfl
    have p1 := HC7.out.2 1 _ rfl
    have p2 := HC7.out.2 2 _ rfl
    have p3 := HC7.out.2 3 _ rfl
    have p4 := HC7.out.2 4 _ rfl
    go_wp2_with fail
    refine (zero_law zeroVa _ h' w6 HL6.out).mono ?_
    rintro e w8 ⟨r, rfl, hr, hb8⟩
    obtain rfl : r = true := hr.2 rfl
    clear hr
    go_wp2_with fail
    go_ret
    exact ⟨rfl, Below_next HX7.out.1 hb8⟩
  have HY := Lib.hid (HR.out.1 rfl)
  clear HR
  rcases HP.out.ge with hm | hm
  · subst hm
    have hnk : key ∉ ks := by
      rcases HP.out with ⟨_, h⟩ | ⟨i, h, _⟩
      · exact h
      · exact absurd h (by omega)
    obtain rfl : ok = false := by
      rcases hok with h | h
      · exact absurd (hOKA.out h).2 hnk
      · exact h
    obtain rfl : b = zeroVa := (HNO.out rfl).1
    clear hnk hok
    have HX7 := Lib.hid hbx6
    have HC7 := HC6
    clear hbx6
    have p0 := HC7.out.2 0 _ rfl
    have p1 := HC7.out.2 1 _ rfl
    have p2 := HC7.out.2 2 _ rfl
    have p3 := HC7.out.2 3 _ rfl
    have p4 := HC7.out.2 4 _ rfl
    go_wp2_with fail
    refine (zero_law zeroVa _ h' w6 HL6.out).mono ?_
    rintro e w8 ⟨r, rfl, hr, hb8⟩
    obtain rfl : r = true := hr.2 rfl
    clear hr
    go_wp2_with fail
    go_ret
    exact ⟨rfl, Below_next HX7.out.1 hb8⟩
  · obtain ⟨i, hi⟩ : ∃ i : Nat, m = (i : Int) := ⟨m.toNat, by omega⟩
    subst hi
    have hki : ks[i]? = some key := by
      rcases HP.out with ⟨h, _⟩ | ⟨j, h, h1, _⟩
      · exact absurd h (by omega)
      · rw [show i = j by omega]; exact h1
    have hil : i < f.length := by have := (List.getElem?_eq_some_iff.1 hki).1; have := E6.out; omega
    obtain rfl : ok = true := by
      rcases hok with h | h
      · exact h
      · exact absurd (List.mem_of_getElem? hki) ((HNO.out h).2 HY.out)
    have hfb : f[i]? = some b := by
      obtain ⟨_, j, hpj, hfj⟩ := HYES.out rfl
      have := hpj.uniq HP.out
      rw [show i = j by omega]
      exact hfj
    have HFB := Lib.hid hfb
    obtain ⟨ad, u, key', hF, _, hbl, -, _, hLu, hcell⟩ := Hop.out.K i b hfb
    have HX6 := Lib.hid hbx6
    obtain ⟨k0, k1, k2, k3, k4, k5⟩ := hcell.below hbx6.1 hbl
    have HLu := Lib.hid (hLu.below hbx6.1 (Nat.le_refl _))
    have hcF := hbx6.2.2 4 _ rfl
    rw [hF] at hcF
    have hlf : h.lf = f.length := E5.out
    rw [hlf] at hcF
    have hif : (i : Int) < (f.length : Int) := by omega
    have hi0 : (0 : Int) ≤ (i : Int) := by omega
    have p0 := HC6.out.2 0 _ rfl
    have p1 := HC6.out.2 1 _ rfl
    have p2 := HC6.out.2 2 _ rfl
    have p3 := HC6.out.2 3 _ rfl
    have p4 := HC6.out.2 4 _ rfl
    clear hbx6 hcell hLu hki hF hlf hfb hok
    go_wp2_with fail
    go_still_tail 9, (by kernel_rfl)
    change wpList _ _ _ _ _ w6.drew
    have hbd : Below w6.heap.size w6 w6.drew := (Below.refl _ _).drew
    generalize w6.drew = w7 at hbd ⊢
    have HBD := Lib.hid hbd
    clear hbd
    go_wp2_with fail
    refine (same_ref b b _ _ h' u w7 (HL6.out.below HBD.out (Nat.le_refl _)) (HLu.out.below HBD.out (Nat.le_refl _))).mono ?_
    rintro e w8 ⟨r, rfl, hr, hb8⟩
    obtain rfl : r = true := hr.2 rfl
    clear hr
    go_wp2_with fail
    go_ret
    exact ⟨rfl, Below_next (Below_next HX6.out.1 HBD.out) hb8⟩
theorem own : ownKnob Try.prog.godebug = none := by kernel_rfl
theorem laidOut : laidOutB Try.prog = true := by kernel_rfl
set_option maxRecDepth 100000 in
theorem lifted (os : Os) (started : os.Started) (H : Type) (enc : TypeId × Value → H) :
    ReturnsInHanded {} Try.checked os 5 .any (Rows.treeGetsSpec.pre6 enc Try.prog Try.f5 Rows.treeGetsRow.domain false) (Rows.treeGetsSpec.post enc Try.prog Try.f5 false true false false) := by
  refine returnsInHanded_of_change (C := Try.checked) own started (by kernel_rfl) Try.func5
    (ChangeSpec.witness6 (enc := enc) (C := Try.checked) false ⟨#[], #[.agg #[.int .i64 0, .int .i64 0, .string ByteArray.empty, .slice none 0 0, .slice none 0 0], .string ByteArray.empty], []⟩ 8 (by kernel_rfl) (by kernel_rfl) (by kernel_rfl) (by kernel_rfl)) ?_
  intro W base args ds gs before hval0 hW hcnd _
  have hval : ∀ (j : Nat) t v, Try.f5.params[j]? = some t → args[j]? = some v → Value.okWide Try.prog W .any base t v := hval0
  have hW' := hW
  obtain ⟨p, q, hA0, hV, rfl, hfz, hnd⟩ := hW
  have hA : DataW.TrodAll enc Try.prog W 0 (fun _ => true) true Try.f5.params.toList args.toList ds p := hA0
  rw [Try.params5] at hA hval
  obtain ⟨v0, vs0, d0, ds0, p0, q0, hargs, rfl, rfl, h0, r0⟩ := trodAll_cons hA
  obtain ⟨v1, vs1, d1, ds1, p1, q1, rfl, rfl, rfl, h1, r1⟩ := trodAll_cons r0
  obtain ⟨rfl, rfl, rfl⟩ := trodAll_nil r1
  obtain rfl : args = #[v0, v1] := by cases args; simp_all
  obtain ⟨rfl, rfl⟩ := trodVars_none hV
  have k0 := h0
  have lt0 : ∀ x ∈ p0, x.block < W.heap.size := by obtain ⟨m, hm⟩ := k0; exact DataW.trod_lt m _ _ _ hm
  obtain ⟨a0, g0, rfl, w0⟩ := open_value (hval 0 25 v0 rfl rfl) h0
  have k1 := h1
  have lt1 : ∀ x ∈ p1, x.block < W.heap.size := by obtain ⟨m, hm⟩ := k1; exact DataW.trod_lt m _ _ _ hm
  obtain ⟨a1, rfl, hd1, hp1, w1⟩ := open_string Try.underlying9 (hval 1 9 v1 rfl rfl) h1
  clear hA0 hval0
  refine (walk W a0 g0 w0 a1 w1).mono fun e W' ⟨he, bel⟩ => ?_
  subst he
  exact ⟨_, rfl, _, _, _, [], _, [], hW', trodAll_mk1 (shut_bool Try.underlying4 _), (trodAll_cons_mk (Below.trod laidOut (by kernel_rfl) (of_decide_eq_true (by kernel_rfl)) k0 bel lt0) (trodAll_cons_mk (Below.trod laidOut (by kernel_rfl) (of_decide_eq_true (by kernel_rfl)) k1 bel lt1) trodAll_mk0)), rfl, bel.frame _, fun h => by cases h⟩
theorem over : Rows.treeGetsRow.holds Try.pinned (OpenSpec.ofChange Rows.treeGetsSpec) :=
  OpenClaim.holds_of_wide 5 Try.f5 rfl rfl rfl rfl rfl rfl rfl ⟨rfl, rfl, rfl, rfl, rfl⟩ rfl rfl rfl rfl rfl (by kernel_rfl) Try.func5 (by kernel_rfl)
    (of_decide_eq_true (by kernel_rfl)) (by unfold Func.isWrapper; first | (rw [if_pos (by decide +kernel)]; kernel_rfl) | (rw [if_neg (by decide +kernel)]; exact ⟨rfl, rfl⟩))
    (fun os started H enc _ => lifted os started H enc)
theorem proved : Rows.TreeGetsSaid := over
end Go.Proofs.Ytfcbbafdknobeaa.treeGets
namespace Go.Proofs.Ytfcbbafdknobeaa
theorem treeGets_holds : Rows.TreeGetsSaid := treeGets.proved
#print axioms treeGets_holds
end Go.Proofs.Ytfcbbafdknobeaa
