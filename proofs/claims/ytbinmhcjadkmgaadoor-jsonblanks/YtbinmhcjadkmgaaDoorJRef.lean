/- The reference's Encode: what it tells of a right value is its JSON. -/
import Derived.Test.YtbinmhcjadkmgaaDoorJPut
import Derived.Test.YtbinmhcjadkmgaaDoorJNum
import Derived.Test.YtbinmhcjadkmgaaDoorTLawA
import Derived.Deep.RegionHeld3
set_option linter.unusedVariables false
set_option linter.unusedSimpArgs false
namespace Go.Proofs.YtbinmhcjadkmgaaDoor
open Go.RowKit
theorem size_app (a b : ByteArray) : (a ++ b).size = a.size + b.size := ByteArray.size_append
theorem joined3 (a b c : List UInt8) : (⟨a.toArray⟩ : ByteArray) ++ ⟨b.toArray⟩ ++ ⟨c.toArray⟩ = ⟨(a ++ (b ++ c)).toArray⟩ := by rw [mk_app, mk_app, List.append_assoc]
theorem joinedG (t : List UInt8) (key : ByteArray) (x : List UInt8) : (⟨t.toArray⟩ : ByteArray) ++ (quoteB key ++ ⟨#[58]⟩ ++ ⟨x.toArray⟩) = ⟨(t ++ ([] ++ (qL key.data.toList ++ 58 :: x))).toArray⟩ := by
  have := joined3 (qL key.data.toList) [58] x
  show (⟨t.toArray⟩ : ByteArray) ++ (⟨(qL key.data.toList).toArray⟩ ++ ⟨[58].toArray⟩ ++ ⟨x.toArray⟩) = _
  rw [this, mk_app]; rfl
theorem joinedF (t c : List UInt8) (key : ByteArray) (x : List UInt8) : (⟨t.toArray⟩ : ByteArray) ++ ⟨c.toArray⟩ ++ (quoteB key ++ ⟨#[58]⟩ ++ ⟨x.toArray⟩) = ⟨(t ++ (c ++ (qL key.data.toList ++ 58 :: x))).toArray⟩ := by
  have := joinedG (t ++ c) key x
  rw [mk_app t c, this]; simp
theorem wrapped (x y : UInt8) (a : List UInt8) : (⟨#[x]⟩ : ByteArray) ++ ⟨a.toArray⟩ ++ ⟨#[y]⟩ = ⟨(x :: (a ++ [y])).toArray⟩ := by
  have := joined3 [x] a [y]
  exact this
/-- What the reference's round reads. -/
abbrev SE (N : Nat) (F : Value) (q : Addr) (key : ByteArray) (u : Hd) (w : World) : Prop := w.cell? ⟨N, 4, none⟩ = some F ∧ w.cell? q = some (.string key) ∧ w.cell? ⟨q.block, q.off + 1, none⟩ = some (.int .i64 u.k) ∧ w.cell? ⟨q.block, q.off + 2, none⟩ = some (.int .i64 u.n) ∧ w.cell? ⟨q.block, q.off + 3, none⟩ = some (.string u.s) ∧ w.cell? ⟨q.block, q.off + 4, none⟩ = some (.slice u.A u.la u.lc) ∧ w.cell? ⟨q.block, q.off + 5, none⟩ = some (.slice u.F u.lf u.fc)
theorem SE.bel {N : Nat} {F : Value} {q : Addr} {key : ByteArray} {u : Hd} {w w' : World} (h : SE N F q key u w) (hb : Below w.heap.size w w') : SE N F q key u w' :=
  have c : ∀ {p : Addr} {v : Value}, w.cell? p = some v → w'.cell? p = some v := fun {p v} hp => (hb.cell (World.block_lt_of_cell? w _ hp)).trans hp
  ⟨c h.1, c h.2.1, c h.2.2.1, c h.2.2.2.1, c h.2.2.2.2.1, c h.2.2.2.2.2.1, c h.2.2.2.2.2.2⟩
theorem SE.drew {N : Nat} {F : Value} {q : Addr} {key : ByteArray} {u : Hd} {w : World} (h : SE N F q key u w) : SE N F q key u w.drew := h.bel ((Below.refl _ _).drew)
def adA : Op := Op.binOp BinOp.add 9 (Operand.tmp 68) (Operand.const (Value.string { data := #[58] })) 9
def adB : Op := Op.binOp BinOp.add 9 (Operand.tmp 69) (Operand.tmp 76) 9
def adC : Op := Op.binOp BinOp.add 9 (Operand.tmp 61) (Operand.tmp 77) 9
def EncR (a : Va) : Prop := ∀ (S : Nat → Prop) (h : Hd) (w : World) (d : Nat), Lies w S a h → a.R d → a.Sh → a.js.length ≤ 400000 →
    Calls Tryd.prog 11 #[h.val] w fun e w' => e = .returned (.string ⟨a.js.toArray⟩) ∧ Below w.heap.size w w'
set_option maxHeartbeats 2000000 in
set_option maxRecDepth 100000 in
theorem encode_ref : ∀ (a : Va), EncR a := by
  intro a
  induction a using Va.ind with
  | h k nn s l ks f ihl ihf =>
  intro S h w d H hR hsh hlen
  have Hop := H.op
  simp only [Lies] at H
  obtain ⟨⟨e1, e2, e3, e4, e5, e6⟩, ⟨b1, b2, b3, b4, b5, b6, b7, b8⟩, -, -⟩ := H
  obtain ⟨hk, hnn, hs, A, la, lc, F, lf, fc⟩ := h
  simp only at e1 e2 e3 e4 e5 b7 b8
  subst e1 e2 e3 e4 e5
  have hml : maxLen ≤ 9223372036854775807 := by decide
  have b5' : l.length ≤ 9223372036854775807 := Nat.le_trans b5 hml
  have b6' : f.length ≤ 9223372036854775807 := Nat.le_trans b6 hml
  clear hml b5 b6 b3
  simp only [Va.R] at hR
  obtain ⟨-, htop, hkeys, hRl, hRf⟩ := hR
  simp only [Va.Sh] at hsh
  obtain ⟨hs1, hs2, hs3, hs4⟩ := hsh
  have HRS := Lib.hid htop.c8
  have hc6 := htop.c6
  have hc7 := htop.c7
  have hkk : hk = 0 ∨ hk = 1 ∨ hk = 2 ∨ hk = 3 ∨ hk = 4 ∨ hk = 5 := by have := htop.k0; have := htop.k5; omega
  have HKEYS := Lib.hid hkeys
  have HRL := Lib.hid hRl
  have HRF := Lib.hid hRf
  have HS2 := Lib.hid hs2
  have HS3 := Lib.hid hs3
  have HS4 := Lib.hid hs4
  have HB0 := Lib.hid ((Below.refl w.heap.size w).alloc (Nat.le_refl _) (Obj.cells #[.int .i64 hk, .int .i64 hnn, .string hs, .slice A l.length lc, .slice F f.length fc] 25))
  clear htop hkeys hRl hRf hs2 hs3 hs4 b4 b1
  unfold Hd.val
  simp only
  rcases hkk with rfl | rfl | rfl | rfl | rfl | rfl
  · have HJ := Lib.hid (js_null (k := 0) (n := hnn) (s := hs) (l := l) (ks := ks) (f := f) rfl)
    clear ihl ihf Hop hlen
    go_enter Tryd.func11, Tryd.ntmps11
    go_wp2_with fail
    go_ret
    exact ⟨by rw [HJ.out]; rfl, HB0.out⟩
  · by_cases hn : hnn = 1
    · subst hn
      have HJ : Hid ((Va.mk 1 1 hs l ks f).js = [116, 114, 117, 101]) := by
        have : (Va.mk 1 1 hs l ks f).js = [116, 114, 117, 101] := by simp [Va.js]
        exact this
      clear ihl ihf Hop hlen
      go_enter Tryd.func11, Tryd.ntmps11
      go_wp2_with fail
      go_ret
      exact ⟨by rw [HJ.out]; rfl, HB0.out⟩
    · have HJ : Hid ((Va.mk 1 hnn hs l ks f).js = [102, 97, 108, 115, 101]) := by
        have : (Va.mk 1 hnn hs l ks f).js = [102, 97, 108, 115, 101] := by simp only [Va.js, if_true]; rw [if_neg hn]
        exact this
      have hn' : (hnn == 1) = false := by simpa using hn
      clear ihl ihf Hop hlen
      go_enter Tryd.func11, Tryd.ntmps11
      go_wp2_with fail
      go_ret
      exact ⟨by rw [HJ.out]; rfl, HB0.out⟩
  · have HJ := Lib.hid (js_int (k := 2) (n := hnn) (s := hs) (l := l) (ks := ks) (f := f) rfl)
    have K := Lib.hid (fun w1 => number_ref hnn (by omega) (by omega) w1)
    clear ihl ihf Hop hlen
    go_enter Tryd.func11, Tryd.ntmps11
    go_wp2_with fail
    refine (K.out _).mono ?_
    rintro e w1 ⟨rfl, hb1⟩
    have HB1 := Lib.hid (after_alloc hb1).1
    clear hb1
    go_wp2_with fail
    go_ret
    exact ⟨by rw [HJ.out]; rfl, HB1.out⟩
  · have HJ := Lib.hid (js_str (k := 3) (n := hnn) (s := hs) (l := l) (ks := ks) (f := f) rfl)
    have K := Lib.hid (fun w1 => quote_ref hs (by omega) w1)
    clear ihl ihf Hop hlen
    go_enter Tryd.func11, Tryd.ntmps11
    go_wp2_with fail
    refine (K.out _).mono ?_
    rintro e w1 ⟨rfl, hb1⟩
    have HB1 := Lib.hid (after_alloc hb1).1
    clear hb1
    go_wp2_with fail
    go_ret
    exact ⟨by rw [HJ.out]; rfl, HB1.out⟩
  · have HJ := Lib.hid (js_list (k := 4) (n := hnn) (s := hs) (l := l) (ks := ks) (f := f) rfl)
    have hjl : (jsL l false).length + 2 ≤ 400000 := by have h1 := hlen; rw [HJ.out] at h1; simp at h1; omega
    clear hlen
    go_enter Tryd.func11, Tryd.ntmps11
    go_wp2_with fail
    go_loopw [3, 4] (fun sv iv wr => ∃ (i : Nat) (T : ByteArray), sv = .string T ∧ Hid (T = ⟨(jsL (l.take i) false).toArray⟩) ∧ T.size ≤ 399998 ∧ iv = .int .i64 i ∧ i ≤ l.length ∧ BoxAt w wr ⟨4, hnn, hs, A, l.length, lc, F, f.length, fc⟩) (fun _ iv _ => l.length - (intOf iv).toNat)
    case atStart => exact ⟨0, _, rfl, Lib.hid (by simp [jsL]), by decide, rfl, Nat.zero_le _, BoxAt.start w ⟨4, hnn, hs, A, l.length, lc, F, f.length, fc⟩ 25⟩
    case round =>
      obtain ⟨i, T, rfl, HTT, hts, rfl, hi, hbx⟩ := hrel
      have cA := hbx.2.2 3 _ rfl
      have HB := Lib.hid hbx
      clear hbx
      by_cases hlt : i < l.length
      · obtain ⟨ad, u, rfl, _, hbl, hLu, hcell⟩ := Hop.L i _ (List.getElem?_eq_getElem hlt)
        obtain ⟨k0, k1, k2, k3, k4⟩ := hcell.below HB.out.1 hbl
        have hLu' := Lib.hid (hLu.below HB.out.1 (Nat.le_refl _))
        have ihx := Lib.hid (ihl l[i] (List.getElem_mem hlt))
        have hst := Lib.hid (jsL_at l i _ (List.getElem?_eq_getElem hlt))
        have hle := jsL_le l (i + 1) false
        rw [hst.out] at hle
        have HRX := Lib.hid (RL_mem HRL.out (List.getElem_mem hlt))
        have HSX := Lib.hid (ShL_mem HS2.out (List.getElem_mem hlt))
        generalize hx : l[i] = x at *
        clear hcell hLu ihl ihf Hop hx
        simp only [List.length_append] at hle
        have ht1 : T.size = (jsL (l.take i) false).length := by rw [HTT.out]; simp [ByteArray.size]
        obtain ⟨X, hX⟩ : ∃ X : ByteArray, X = ⟨x.js.toArray⟩ := ⟨_, rfl⟩
        have hxs : X.size = x.js.length := by rw [hX]; simp [ByteArray.size]
        have HX := Lib.hid hX
        have K := Lib.hid (ihx.out S u wr _ hLu'.out HRX.out HSX.out (by omega))
        rw [← hX] at K
        by_cases hi0 : 0 < i
        · have hcm : cm i = [44] := by unfold cm; rw [if_pos hi0]
          rw [hcm] at hle hst
          simp only [List.length_cons, List.length_nil] at hle
          have hb2 : T.size + 1 + X.size ≤ 399998 := by omega
          have hbx : X.size ≤ 399998 := by omega
          clear hle ht1 hX hxs ihx hjl hcm
          go_wp2_with fail
          refine K.out.mono ?_
          rintro e w1 ⟨rfl, hb1⟩
          have HB1 := Lib.hid (HB.out.go hb1 (Nat.le_refl _))
          clear hb1 K
          go_wp2_with fail
          exact ⟨⟨i + 1, _, rfl, Lib.hid (by rw [hst.out, HTT.out, HX.out]; exact joined3 _ [44] _), by rw [size_app, size_app]; show T.size + 1 + X.size ≤ 399998; exact hb2, by rw [Int.natCast_add]; rfl, by omega, HB1.out⟩, by simp [intOf]; omega⟩
        · have hcm : cm i = [] := by unfold cm; rw [if_neg hi0]
          rw [hcm] at hle hst
          simp only [List.length_nil] at hle
          have hb2 : T.size + X.size ≤ 399998 := by omega
          have hbx : X.size ≤ 399998 := by omega
          clear hle ht1 hX hxs ihx hjl hcm
          go_wp2_with fail
          refine K.out.mono ?_
          rintro e w1 ⟨rfl, hb1⟩
          have HB1 := Lib.hid (HB.out.go hb1 (Nat.le_refl _))
          clear hb1 K
          go_wp2_with fail
          exact ⟨⟨i + 1, _, rfl, Lib.hid (by rw [hst.out, HTT.out, HX.out]; exact mk_app _ _), by rw [size_app]; exact hb2, by rw [Int.natCast_add]; rfl, by omega, HB1.out⟩, by simp [intOf]; omega⟩
      · have HE := Lib.hid (show jsL (l.take i) false = jsL l false by rw [List.take_of_length_le (by omega)])
        clear ihl ihf Hop
        go_wp2_with fail
        go_ret
        exact ⟨by rw [HJ.out, ← HE.out]; exact congrArg (fun x => Ending.returned (.string x)) (by rw [HTT.out]; exact wrapped 91 93 _), HB.out.1⟩
  · have HJ := Lib.hid (js_obj (k := 5) (n := hnn) (s := hs) (l := l) (ks := ks) (f := f) rfl)
    have hjl : (jsF f ks false).length + 2 ≤ 400000 := by have h1 := hlen; rw [HJ.out] at h1; simp at h1; omega
    clear hlen
    go_enter Tryd.func11, Tryd.ntmps11
    go_wp2_with fail
    go_loopw [5, 6] (fun sv iv wr => ∃ (i : Nat) (T : ByteArray), sv = .string T ∧ Hid (T = ⟨(jsF (f.take i) ks false).toArray⟩) ∧ T.size ≤ 399998 ∧ iv = .int .i64 i ∧ i ≤ f.length ∧ BoxAt w wr ⟨5, hnn, hs, A, l.length, lc, F, f.length, fc⟩) (fun _ iv _ => f.length - (intOf iv).toNat)
    case atStart => exact ⟨0, _, rfl, Lib.hid (by simp [jsF]), by decide, rfl, Nat.zero_le _, BoxAt.start w ⟨5, hnn, hs, A, l.length, lc, F, f.length, fc⟩ 25⟩
    case round =>
      obtain ⟨i, T, rfl, HTT, hts, rfl, hi, hbx⟩ := hrel
      have cF := hbx.2.2 4 _ rfl
      have HB := Lib.hid hbx
      clear hbx
      by_cases hlt : i < f.length
      · obtain ⟨ad, u, key, rfl, _, hbl, hkey, _, hLu, hcell⟩ := Hop.K i _ (List.getElem?_eq_getElem hlt)
        obtain ⟨k0, k1, k2, k3, k4, k5⟩ := hcell.below HB.out.1 hbl
        have hLu' := Lib.hid (hLu.below HB.out.1 (Nat.le_refl _))
        have ihx := Lib.hid (ihf f[i] (List.getElem_mem hlt))
        have hst := Lib.hid (jsF_at f ks i _ key (List.getElem?_eq_getElem hlt) hkey)
        have hle := jsF_le f ks (i + 1) false
        rw [hst.out] at hle
        have HRX := Lib.hid (RL_mem HRF.out (List.getElem_mem hlt))
        have HSX := Lib.hid (ShL_mem HS4.out (List.getElem_mem hlt))
        have hks : key.size ≤ 500 := HS3.out key (List.mem_of_getElem? hkey)
        generalize hx : f[i] = x at *
        clear hcell hLu ihl ihf Hop hx hkey
        simp only [List.length_append, List.length_cons] at hle
        have ht1 : T.size = (jsF (f.take i) ks false).length := by rw [HTT.out]; simp [ByteArray.size]
        obtain ⟨X, hX⟩ : ∃ X : ByteArray, X = ⟨x.js.toArray⟩ := ⟨_, rfl⟩
        obtain ⟨Y, hY⟩ : ∃ Y : ByteArray, Y = quoteB key := ⟨_, rfl⟩
        have hxs : X.size = x.js.length := by rw [hX]; simp [ByteArray.size]
        have hys : Y.size = (qL key.data.toList).length := by rw [hY]; simp [quoteB, ByteArray.size]
        have HX := Lib.hid hX
        have HY := Lib.hid hY
        have HBD := Lib.hid ((Below.refl wr.heap.size wr).drew)
        have K : ∀ w1, Below wr.drew.heap.size wr.drew w1 → Calls Tryd.prog 11 #[u.val] w1 fun e w' => e = .returned (.string X) ∧ Below w1.heap.size w1 w' := fun w1 hb => by
          rw [hX]
          exact ihx.out S u w1 _ (hLu'.out.below (B := wr.heap.size) (HBD.out.trans hb) (Nat.le_refl _)) HRX.out HSX.out (by omega)
        unfold Hd.val at K
        have K := Lib.hid K
        have KQ : Calls Tryd.prog 20 #[.string key] wr.drew fun e w' => e = .returned (.string Y) ∧ Below wr.drew.heap.size wr.drew w' := by
          rw [hY]; exact quote_ref key (by omega) _
        have KQ := Lib.hid KQ
        have HSE0 : SE w.heap.size (.slice (some ad) f.length fc) (ad.add (i * 6)) key u wr.drew := SE.drew ⟨cF, k0, k1, k2, k3, k4, k5⟩
        have HSE := Lib.hid HSE0
        clear HSE0
        by_cases hi0 : 0 < i
        · have hcm : cm i = [44] := by unfold cm; rw [if_pos hi0]
          rw [hcm] at hle hst
          simp only [List.length_cons, List.length_nil] at hle
          have hb2 : T.size + 1 + (Y.size + 1 + X.size) ≤ 399998 := by omega
          have hbx : X.size ≤ 399998 := by omega
          have hby : Y.size ≤ 399998 := by omega
          clear hle ht1 hX hxs ihx hjl hcm hY hys
          go_wp2_with fail
          have hadA : adA = Op.binOp BinOp.add 9 (Operand.tmp 68) (Operand.const (Value.string { data := #[58] })) 9 := rfl
          have hadB : adB = Op.binOp BinOp.add 9 (Operand.tmp 69) (Operand.tmp 76) 9 := rfl
          have hadC : adC = Op.binOp BinOp.add 9 (Operand.tmp 61) (Operand.tmp 77) 9 := rfl
          rw [show Op.binOp BinOp.add 9 (Operand.tmp 68) (Operand.const (Value.string { data := #[58] })) 9 = adA from rfl, show Op.binOp BinOp.add 9 (Operand.tmp 69) (Operand.tmp 76) 9 = adB from rfl, show Op.binOp BinOp.add 9 (Operand.tmp 61) (Operand.tmp 77) 9 = adC from rfl]
          go_region_held3 (fun w' => w'.cell? ⟨w.heap.size, 4, none⟩ = some (.slice (some ad) f.length fc) ∧ w'.cell? (ad.add (i * 6)) = some (.string key) ∧ w'.cell? ⟨(ad.add (i * 6)).block, (ad.add (i * 6)).off + 1, none⟩ = some (.int .i64 u.k) ∧ w'.cell? ⟨(ad.add (i * 6)).block, (ad.add (i * 6)).off + 2, none⟩ = some (.int .i64 u.n) ∧ w'.cell? ⟨(ad.add (i * 6)).block, (ad.add (i * 6)).off + 3, none⟩ = some (.string u.s) ∧ w'.cell? ⟨(ad.add (i * 6)).block, (ad.add (i * 6)).off + 4, none⟩ = some (.slice u.A u.la u.lc) ∧ w'.cell? ⟨(ad.add (i * 6)).block, (ad.add (i * 6)).off + 5, none⟩ = some (.slice u.F u.lf u.fc))
            (first
              | (have h6 := SE.bel (SE.bel HSE.out hb3) hb4; with_reducible exact h6)
              | (have h6 := SE.bel HSE.out hb3; with_reducible exact h6)
              | (with_reducible exact HSE.out)
              | (trace_state; fail))
            (first
              | (go_at_call 20; refine (Hid.out KQ).mono ?_; rintro e w3 ⟨rfl, hb3⟩)
              | (go_at_call 11; refine (Hid.out K _ hb3).mono ?_; rintro e w4 ⟨rfl, hb4⟩)
              | fail)
          all_goals go_wp2_with fail
          all_goals exact ⟨⟨i + 1, _, rfl, Lib.hid (by rw [hst.out, HTT.out, HX.out, HY.out]; exact joinedF _ [44] _ _), by rw [size_app, size_app, size_app, size_app]; show T.size + 1 + (Y.size + 1 + X.size) ≤ 399998; exact hb2, by rw [Int.natCast_add]; rfl, by omega, (HB.out.go HBD.out (Nat.le_refl _)).go (hb3.trans (hb4.mono hb3.size)) (Nat.le_refl _)⟩, by simp [intOf]; omega⟩
        · have hcm : cm i = [] := by unfold cm; rw [if_neg hi0]
          rw [hcm] at hle hst
          simp only [List.length_nil] at hle
          have hb2 : T.size + (Y.size + 1 + X.size) ≤ 399998 := by omega
          have hbx : X.size ≤ 399998 := by omega
          have hby : Y.size ≤ 399998 := by omega
          clear hle ht1 hX hxs ihx hjl hcm hY hys
          go_wp2_with fail
          have hadA : adA = Op.binOp BinOp.add 9 (Operand.tmp 68) (Operand.const (Value.string { data := #[58] })) 9 := rfl
          have hadB : adB = Op.binOp BinOp.add 9 (Operand.tmp 69) (Operand.tmp 76) 9 := rfl
          have hadC : adC = Op.binOp BinOp.add 9 (Operand.tmp 61) (Operand.tmp 77) 9 := rfl
          rw [show Op.binOp BinOp.add 9 (Operand.tmp 68) (Operand.const (Value.string { data := #[58] })) 9 = adA from rfl, show Op.binOp BinOp.add 9 (Operand.tmp 69) (Operand.tmp 76) 9 = adB from rfl, show Op.binOp BinOp.add 9 (Operand.tmp 61) (Operand.tmp 77) 9 = adC from rfl]
          go_region_held3 (fun w' => w'.cell? ⟨w.heap.size, 4, none⟩ = some (.slice (some ad) f.length fc) ∧ w'.cell? (ad.add (i * 6)) = some (.string key) ∧ w'.cell? ⟨(ad.add (i * 6)).block, (ad.add (i * 6)).off + 1, none⟩ = some (.int .i64 u.k) ∧ w'.cell? ⟨(ad.add (i * 6)).block, (ad.add (i * 6)).off + 2, none⟩ = some (.int .i64 u.n) ∧ w'.cell? ⟨(ad.add (i * 6)).block, (ad.add (i * 6)).off + 3, none⟩ = some (.string u.s) ∧ w'.cell? ⟨(ad.add (i * 6)).block, (ad.add (i * 6)).off + 4, none⟩ = some (.slice u.A u.la u.lc) ∧ w'.cell? ⟨(ad.add (i * 6)).block, (ad.add (i * 6)).off + 5, none⟩ = some (.slice u.F u.lf u.fc))
            (first
              | (have h6 := SE.bel (SE.bel HSE.out hb3) hb4; with_reducible exact h6)
              | (have h6 := SE.bel HSE.out hb3; with_reducible exact h6)
              | (with_reducible exact HSE.out)
              | (trace_state; fail))
            (first
              | (go_at_call 20; refine (Hid.out KQ).mono ?_; rintro e w3 ⟨rfl, hb3⟩)
              | (go_at_call 11; refine (Hid.out K _ hb3).mono ?_; rintro e w4 ⟨rfl, hb4⟩)
              | fail)
          all_goals go_wp2_with fail
          all_goals exact ⟨⟨i + 1, _, rfl, Lib.hid (by rw [hst.out, HTT.out, HX.out, HY.out]; exact joinedG _ _ _), by rw [size_app, size_app, size_app]; show T.size + (Y.size + 1 + X.size) ≤ 399998; exact hb2, by rw [Int.natCast_add]; rfl, by omega, (HB.out.go HBD.out (Nat.le_refl _)).go (hb3.trans (hb4.mono hb3.size)) (Nat.le_refl _)⟩, by simp [intOf]; omega⟩
      · have HE := Lib.hid (show jsF (f.take i) ks false = jsF f ks false by rw [List.take_of_length_le (by omega)])
        clear ihl ihf Hop
        go_wp2_with fail
        go_ret
        exact ⟨by rw [HJ.out, ← HE.out]; exact congrArg (fun x => Ending.returned (.string x)) (by rw [HTT.out]; exact wrapped 123 125 _), HB.out.1⟩
end Go.Proofs.YtbinmhcjadkmgaaDoor
