/- cascade/quote.Quote, walked. -/
import Derived.Test.YtejniiehfangkaaGreatDoorFmt
import Derived.Test.YtejniiehfangkaaGreatDoorRefBad
import Derived.Lib.SmallJoins
set_option linter.unusedVariables false
set_option linter.unusedSimpArgs false
namespace Go.Proofs.YtejniiehfangkaaGreatDoor
open Go.RowKit
theorem own_below {w w' : World} {base B : Nat} {e : TypeId} {size : Nat} {v : Value} {n : Nat} {xs : List Value} (h : w.ownsRow base e size v n xs) (hb : Below B w w') (hB : w.heap.size ≤ B) : w'.ownsRow base e size v n xs := by
  refine ⟨h.1, h.2.imp id ?_⟩
  rintro ⟨g, cap, cur, hv, hg, hh, r⟩
  have hlt : g < w.heap.size := (Array.getElem?_eq_some_iff.1 hh).1
  exact ⟨g, cap, cur, hv, hg, (hb.block g (by omega)).trans hh, r⟩
theorem builderAt_below {T e : TypeId} {B b : Nat} {p : Value} {bs : List Value} {w w' : World} (h : Lib.BuilderAt T e B b p bs w) (hb : Below w.heap.size w w') : Lib.BuilderAt T e B b p bs w' := by
  have hlt := h.lt
  obtain ⟨hB, v, hh, hown, hne⟩ := h
  exact ⟨hB, v, (hb.block b hlt).trans hh, own_below hown hb (Nat.le_refl _), hne⟩
theorem builder_below {T e : TypeId} {B b : Nat} {bs : List Value} {w w' : World} (h : Lib.IsBuilder T e B b bs w) (hb : Below w.heap.size w w') : Lib.IsBuilder T e B b bs w' :=
  h.imp (fun x => builderAt_below x hb) (fun x => builderAt_below x hb)
theorem builderAt_iter {T e : TypeId} {B b : Nat} {p : Value} {bs : List Value} {w : World} (h : Lib.BuilderAt T e B b p bs w) {k : Nat} {s : ByteArray} {pos : Nat} (hk : w.heap[k]? = some (.stringIter s pos)) (pos' : Nat) : Lib.BuilderAt T e B b p bs (w.iterAt k s pos') := by
  obtain ⟨hB, v, hb, hown, hne⟩ := h
  have hkb : b ≠ k := fun e1 => by rw [e1, hk] at hb; cases hb
  refine ⟨hB, v, (Lib.iterAt_other w k b s pos' hkb).trans hb, ⟨hown.1, ?_⟩, hne⟩
  rcases hown.2 with hn | ⟨g, cap, cur, hv, hbg, hg, rest⟩
  · exact .inl hn
  · have hkg : g ≠ k := fun e1 => by rw [e1, hk] at hg; cases hg
    exact .inr ⟨g, cap, cur, hv, hbg, (Lib.iterAt_other w k g s pos' hkg).trans hg, rest⟩
/-- A builder at block B, which holds l, beside the iterator over s at block k; below B all is as it was. -/
def BI (B k : Nat) (l : List UInt8) (s : ByteArray) (pos : Nat) (w0 wr : World) : Prop :=
  Lib.IsBuilder 52 5 B B (Lib.byteCells l) wr ∧ wr.heap[k]? = some (.stringIter s pos) ∧ Below B w0 wr ∧ B ≤ w0.heap.size ∧ k ≠ B ∧ B ≤ k
theorem BI.room {B k : Nat} {l : List UInt8} {s : ByteArray} {pos : Nat} {w0 wr : World} (h : BI B k l s pos w0 wr) : B ≤ wr.heap.size := Nat.le_trans h.2.2.2.1 h.2.2.1.size
theorem BI.move {B k : Nat} {l : List UInt8} {s : ByteArray} {pos : Nat} {w0 wr : World} (h : BI B k l s pos w0 wr) (p' : Nat) : BI B k l s p' w0 (wr.iterAt k s p') :=
  ⟨h.1.imp (fun x => builderAt_iter x h.2.1 p') (fun x => builderAt_iter x h.2.1 p'), Lib.iterAt_heap _ _ _ _ _ h.2.1, Lib.below_iterAt h.2.2.1 h.2.2.2.2.2 _ _, h.2.2.2.1, h.2.2.2.2.1, h.2.2.2.2.2⟩
theorem BI.put {B k : Nat} {l l' : List UInt8} {s : ByteArray} {pos : Nat} {w0 wr w' : World} (h : BI B k l s pos w0 wr) (hI : Lib.IsBuilder 52 5 B B (Lib.byteCells l') w') (hf : Fr B B wr w') : BI B k l' s pos w0 w' :=
  ⟨hI, hf.2.iter h.2.1 h.2.2.2.2.1, h.2.2.1.trans hf.1, h.2.2.2.1, h.2.2.2.2.1, h.2.2.2.2.2⟩
theorem BI.call {B k : Nat} {l : List UInt8} {s : ByteArray} {pos : Nat} {w0 wr w' : World} (h : BI B k l s pos w0 wr) (hb : Below wr.heap.size wr w') : BI B k l s pos w0 w' :=
  ⟨builder_below h.1 hb, (hb.block k ((Array.getElem?_eq_some_iff.1 h.2.1).1)).trans h.2.1, h.2.2.1.trans (hb.mono h.room), h.2.2.2.1, h.2.2.2.2.1, h.2.2.2.2.2⟩
/-- The table's cell, below B. -/
def TabB (B : Nat) (w : World) : Prop := Tab16 w ∧ 5 < B
theorem TabB.go {B : Nat} {w w' : World} (h : TabB B w) (hb : Below B w w') : TabB B w' := ⟨(hb.cell (p := ⟨5, 15, none⟩) h.2).trans h.1, h.2⟩
theorem tabB_of {w : World} (h : Tab16 w) : TabB w.heap.size w := by
  refine ⟨h, ?_⟩
  unfold Tab16 World.cell? at h
  rcases Nat.lt_or_ge 5 w.heap.size with h' | h'
  · exact h'
  · rw [Array.getElem?_eq_none h'] at h; cases h
theorem TabB.grow {B B' : Nat} {w : World} (h : TabB B w) (hB : B ≤ B') : TabB B' w := ⟨h.1, by have := h.2; omega⟩
theorem hexD_size (r : Nat) : (⟨(hexD r).toArray⟩ : ByteArray).size ≤ 4294967296 := by
  unfold hexD; split <;> simp [ByteArray.size]
set_option maxRecDepth 100000 in
theorem qb_low (r : Nat) (h : r < 32) (h1 : r ≠ 8) (h2 : r ≠ 12) (h3 : r ≠ 10) (h4 : r ≠ 13) (h5 : r ≠ 9) : qb (UInt8.ofNat r) = [92, 117, 48, 48] ++ (if r < 16 then [48] else []) ++ hexD r := by
  have key : ∀ k : Fin 32, (k.val ≠ 8 ∧ k.val ≠ 12 ∧ k.val ≠ 10 ∧ k.val ≠ 13 ∧ k.val ≠ 9) → qb (UInt8.ofNat k.val) = [92, 117, 48, 48] ++ (if k.val < 16 then [48] else []) ++ hexD k.val := by decide +kernel
  exact key ⟨r, h⟩ ⟨h1, h2, h3, h4, h5⟩
set_option maxRecDepth 100000 in
theorem qb_plain (r : Nat) (h : r < 128) (h0 : 32 ≤ r) (h1 : r ≠ 34) (h2 : r ≠ 92) : qb (UInt8.ofNat r) = [UInt8.ofNat r] := by
  have key : ∀ k : Fin 128, (32 ≤ k.val ∧ k.val ≠ 34 ∧ k.val ≠ 92) → qb (UInt8.ofNat k.val) = [UInt8.ofNat k.val] := by decide +kernel
  exact key ⟨r, h⟩ ⟨h0, h1, h2⟩
/-- What putOther puts. -/
theorem qIn_other (r : Nat) (hr : isR r = true) (h0 : 32 ≤ r) (h1 : r ≠ 34) (h2 : r ≠ 92) : qIn (encL r) = encL r := by
  by_cases h : r < 128
  · rw [qIn_enc_small r h, encL_small r h, qb_plain r h h0 h1 h2]
  · exact qIn_enc r hr (by omega)
theorem write_rune_z (B b : Nat) (l : List UInt8) (z : Int) (hr : isR z = true) (w : World) (h : Lib.IsBuilder 52 5 B b (Lib.byteCells l) w) (hlen : l.length ≤ 4294967296) (hBw : B ≤ w.heap.size) :
    Calls Tryz.prog 64 #[.pointer (some ⟨b, 0, none⟩), .int .i32 z] w fun e w' => (∃ k : Int, e = .returned (.tuple #[.int .i64 k, .nilIface])) ∧ Lib.IsBuilder 52 5 B b (Lib.byteCells (l ++ encL z.toNat)) w' ∧ Fr B b w w' := by
  have hz := isR_nat z hr
  have k := write_rune B b l z.toNat hz.2 w h hlen hBw
  rw [hz.1] at k
  exact k
set_option maxHeartbeats 1000000 in
set_option maxRecDepth 100000 in
theorem put_high_z (B b : Nat) (l : List UInt8) (z : Int) (hr : Hid (isR z = true)) (h0 : 32 ≤ z) (w : World) (h : Lib.IsBuilder 52 5 B b (Lib.byteCells l) w) (hlen : l.length ≤ 4294960000) (hBw : B ≤ w.heap.size) :
    Calls Tryz.prog 70 #[.pointer (some ⟨b, 0, none⟩), .int .i32 z] w fun e w' => e = .returned (.tuple #[]) ∧ Lib.IsBuilder 52 5 B b (Lib.byteCells (l ++ encL z.toNat)) w' ∧ Fr B b w w' := by
  go_enter Tryz.func70, Tryz.ntmps70
  go_wp2_with fail
  refine (write_rune_z B b l z hr.out _ h (by omega) hBw).mono ?_
  rintro e w1 ⟨⟨q, rfl⟩, h1, f1⟩
  go_wp2_with fail
  refine bodyPost_ret (results_none rfl _ _ _) rfl ?_
  exact ⟨rfl, h1, f1⟩
theorem put_high (B b : Nat) (l : List UInt8) (r : Nat) (hr : isR r = true) (h0 : 32 ≤ r) (w : World) (h : Lib.IsBuilder 52 5 B b (Lib.byteCells l) w) (hlen : l.length ≤ 4294960000) (hBw : B ≤ w.heap.size) :
    Calls Tryz.prog 70 #[.pointer (some ⟨b, 0, none⟩), .int .i32 r] w fun e w' => e = .returned (.tuple #[]) ∧ Lib.IsBuilder 52 5 B b (Lib.byteCells (l ++ encL r)) w' ∧ Fr B b w w' :=
  put_high_z B b l r (Lib.hid hr) (by omega) w h hlen hBw
set_option maxHeartbeats 1000000 in
set_option maxRecDepth 100000 in
theorem put_low (B b : Nat) (l : List UInt8) (r : Nat) (h0 : r < 32) (w : World) (hT : TabB B w) (h : Lib.IsBuilder 52 5 B b (Lib.byteCells l) w) (hlen : l.length ≤ 4294960000) (hBw : B ≤ w.heap.size) :
    Calls Tryz.prog 70 #[.pointer (some ⟨b, 0, none⟩), .int .i32 r] w fun e w' => e = .returned (.tuple #[]) ∧ Lib.IsBuilder 52 5 B b (Lib.byteCells (l ++ ([92, 117, 48, 48] ++ (if r < 16 then [48] else []) ++ hexD r))) w' ∧ Fr B b w w' := by
  by_cases h16 : r < 16
  · rw [if_pos h16]
    go_enter Tryz.func70, Tryz.ntmps70
    go_wp2_with fail
    refine (write_string B b l ⟨#[92, 117, 48, 48]⟩ _ h (by omega) (by decide) hBw).mono ?_
    rintro e w1 ⟨rfl, h1, f1⟩
    go_wp2_with fail
    refine (write_byte B b _ 48 (by decide) _ h1 (by simp; omega) (by have := f1.1.size; omega)).mono ?_
    rintro e w2 ⟨rfl, h2, f2⟩
    go_wp2_with fail
    refine (fmt_any r h0 _ ((hT.go f1.1).go f2.1).1).mono ?_
    rintro e w3 ⟨rfl, hb3⟩
    have h3 := builder_below h2 hb3
    have f3 : Fr B b w2 w3 := Fr.below hb3 (by have := f1.1.size; have := f2.1.size; omega)
    go_wp2_with fail
    refine (write_string B b _ _ _ h3 (by simp; omega) (hexD_size r) (by have := f1.1.size; have := f2.1.size; have := f3.1.size; omega)).mono ?_
    rintro e w4 ⟨rfl, h4, f4⟩
    go_wp2_with fail
    go_end0
    exact ⟨rfl, by simpa using h4, ((f1.trans f2).trans f3).trans f4⟩
  · rw [if_neg h16]
    go_enter Tryz.func70, Tryz.ntmps70
    go_wp2_with fail
    refine (write_string B b l ⟨#[92, 117, 48, 48]⟩ _ h (by omega) (by decide) hBw).mono ?_
    rintro e w1 ⟨rfl, h1, f1⟩
    go_wp2_with fail
    refine (fmt_any r h0 _ (hT.go f1.1).1).mono ?_
    rintro e w3 ⟨rfl, hb3⟩
    have h3 := builder_below h1 hb3
    have f3 : Fr B b w1 w3 := Fr.below hb3 (by have := f1.1.size; omega)
    go_wp2_with fail
    refine (write_string B b _ _ _ h3 (by simp; omega) (hexD_size r) (by have := f1.1.size; have := f3.1.size; omega)).mono ?_
    rintro e w4 ⟨rfl, h4, f4⟩
    go_wp2_with fail
    go_end0
    exact ⟨rfl, by simpa using h4, (f1.trans f3).trans f4⟩
theorem put_low_z (B b : Nat) (l : List UInt8) (z : Int) (h1 : 0 ≤ z) (h0 : z < 32) (w : World) (hT : TabB B w) (h : Lib.IsBuilder 52 5 B b (Lib.byteCells l) w) (hlen : l.length ≤ 4294960000) (hBw : B ≤ w.heap.size) :
    Calls Tryz.prog 70 #[.pointer (some ⟨b, 0, none⟩), .int .i32 z] w fun e w' => e = .returned (.tuple #[]) ∧ Lib.IsBuilder 52 5 B b (Lib.byteCells (l ++ ([92, 117, 48, 48] ++ (if z.toNat < 16 then [48] else []) ++ hexD z.toNat))) w' ∧ Fr B b w w' := by
  have k := put_low B b l z.toNat (by omega) w hT h hlen hBw
  rw [show ((z.toNat : Nat) : Int) = z by omega] at k
  exact k
/-- A round's end: one rune further. -/
theorem q_next (s : ByteArray) (pos g : Nat) (l Z : List UInt8) (hp : pos < s.size) (hg : s.size < pos + g) (hb : badF s g pos = -1) (hc : l ++ qIn (s.data.toList.drop pos) = Z) :
    badAt s pos = false ∧ isR (Utf8.decode s pos).1 = true ∧ (l ++ qIn (encL (Utf8.decode s pos).1)) ++ qIn (s.data.toList.drop (pos + (Utf8.decode s pos).2)) = Z ∧
      (∃ g', badF s g' (pos + (Utf8.decode s pos).2) = -1 ∧ s.size < pos + (Utf8.decode s pos).2 + g') ∧ (encL (Utf8.decode s pos).1).length = (Utf8.decode s pos).2 := by
  have hba : badAt s pos = false := by
    cases hba : badAt s pos
    · rfl
    · have := badF_hit s g pos hp hg hba; rw [hb] at this; omega
  have hd := enc_dec s pos hp hba
  obtain ⟨g', h1, h2⟩ := badF_go s g pos hp hg hba
  refine ⟨hba, hd.1, ?_, ⟨g', by rw [← h1]; exact hb, h2⟩, ?_⟩
  · rw [← hc, hd.2, qIn_app, List.append_assoc]
  · have e := congrArg List.length hd.2
    rw [List.length_append, List.length_drop, List.length_drop, ← Lib.size_eq] at e
    have := (dec_in s pos hp).2.1
    omega
/-- The loop's relation. -/
def QRel (B k : Nat) (s : ByteArray) (w1 wr : World) : Prop :=
  ∃ (pos g : Nat) (l : List UInt8), pos ≤ s.size ∧ BI B k l s pos w1 wr ∧ l.length ≤ 6 * pos + 1 ∧ l ++ qIn (s.data.toList.drop pos) = 34 :: qIn s.data.toList ∧ badF s g pos = -1 ∧ s.size < pos + g
theorem q_done {B k : Nat} {s : ByteArray} {pos g : Nat} {l l' : List UInt8} {w1 wr w' : World} (hp : pos < s.size) (hg : s.size < pos + g) (hb : badF s g pos = -1) (hc : l ++ qIn (s.data.toList.drop pos) = 34 :: qIn s.data.toList) (hl : l.length ≤ 6 * pos + 1)
    (hit : wr.heap[k]? = some (.stringIter s pos)) (hI : BI B k l' s (pos + (Utf8.decode s pos).2) w1 w') (he : l' = l ++ qIn (encL (Utf8.decode s pos).1)) :
    QRel B k s w1 w' ∧ s.size - w'.iterPos k < s.size - wr.iterPos k := by
  obtain ⟨_, _, q3, ⟨g', q4, q5⟩, q6⟩ := q_next s pos g l _ hp hg hb hc
  have hd := dec_in s pos hp
  refine ⟨⟨_, g', l', hd.2.1, hI, ?_, by rw [he]; exact q3, q4, q5⟩, ?_⟩
  · have := (qIn_len (encL (Utf8.decode s pos).1)).2
    rw [he, List.length_append]; omega
  · rw [iterPos_of hI.2.1, iterPos_of hit]; omega
theorem q_letter (l : List UInt8) (d : Nat) (a : List UInt8) (h : d < 128) (e : qb (UInt8.ofNat d) = a) : l ++ a = l ++ qIn (encL d) := by rw [qIn_enc_small d h, e]
set_option maxHeartbeats 2000000 in
set_option maxRecDepth 100000 in
theorem quote_yes (s : ByteArray) (hs : s.size ≤ 1048576) (hr : rightB s = true) (w : World) (hT : Tab16 w) :
    Calls Tryz.prog 49 #[.string s] w fun e w' => e = .returned (.tuple #[.string (quoteB s), .int .i64 0]) ∧ Below w.heap.size w w' := by
  have hml : s.size ≤ maxLen := by unfold maxLen; omega
  have HBI : Hid (badF s (s.size + 1) 0 = -1) := by
    have : badI s = -1 := by rw [right_iff] at hr; simpa using hr
    exact this
  have HT0 := Lib.hid (tabB_of hT)
  clear hT
  go_enter Tryz.func49, Tryz.ntmps49
  go_wp2_with (go_at_call 69; refine (right_any s hml _).mono ?_; rintro e w1 ⟨rfl, hb1⟩)
  have HT1 := Lib.hid ((HT0.out.go hb1).grow hb1.size)
  refine (write_byte w1.heap.size w1.heap.size [] 34 (by decide) _ (Lib.fresh_isBuilder 52 5 w1) (by simp) (by simp)).mono ?_
  rintro e w2 ⟨rfl, h2, f2⟩
  have hb2 : Below w1.heap.size w1 w2 := ((Below.refl _ w1).alloc (Nat.le_refl _) _).trans f2.1
  have hs2 : w1.heap.size < w2.heap.size := by have := f2.1.size; simp at this; omega
  generalize hBB : w1.heap.size = B at *
  have HBB := Lib.hid hBB
  clear hBB
  go_wp2_with fail
  go_loopw [] (fun wr => QRel B w2.heap.size s w1 wr) (fun wr => s.size - wr.iterPos w2.heap.size)
  case atStart =>
    refine ⟨0, s.size + 1, [34], Nat.zero_le _, ⟨builder_below h2 ((Below.refl _ w2).alloc (Nat.le_refl _) _), World.iter_heap _ _ _, hb2.alloc (by omega) _, HBB.out ▸ Nat.le_refl _, by omega, by omega⟩, by simp, by simp, HBI.out, by omega⟩
  case round =>
    obtain ⟨pos, g, l, hps, hI, hll, hc, hbf, hg⟩ := hrel
    have HC := Lib.hid hc
    have HBF := Lib.hid hbf
    have HIT := Lib.hid hI.2.1
    clear hc hbf
    by_cases hp : pos < s.size
    · have hnx : ∀ ty, (Instr.next (.pointer (some ⟨w2.heap.size, 0, none⟩)) true ty).run Tryz.prog wr = _ := fun ty => Lib.run_next_any_at wr w2.heap.size s pos ty hI.2.1 hp
      have hI1 := hI.move (pos + (Utf8.decode s pos).2)
      obtain ⟨W, hW⟩ : ∃ W, W = wr.iterAt w2.heap.size s (pos + (Utf8.decode s pos).2) := ⟨_, rfl⟩
      obtain ⟨z, hz⟩ : ∃ z : Int, z = ((Utf8.decode s pos).1 : Int) := ⟨_, rfl⟩
      rw [← hW] at hnx hI1
      rw [← hz] at hnx
      have hq := q_next s pos g l _ hp hg HBF.out HC.out
      have hzr : isR z = true := by rw [hz]; exact hq.2.1
      have HZ : Hid (∀ n : Nat, z = n → n = (Utf8.decode s pos).1) := fun n h => by omega
      have HZ2 : Hid (z.toNat = (Utf8.decode s pos).1) := by have : z.toNat = (Utf8.decode s pos).1 := by omega
                                                             exact this
      have hz0 : 0 ≤ z := by omega
      have HR := Lib.hid hzr
      have hTw : TabB B W := (HT1.out).go hI1.2.2.1
      have HTw := Lib.hid hTw
      clear hz hW hq hzr hI hTw
      by_cases c34 : z = 34
      · subst c34
        go_wp2_with fail
        refine (write_byte B B l 92 (by decide) _ hI1.1 (by omega) hI1.room).mono ?_
        rintro e w3 ⟨rfl, h3, f3⟩
        have hI3 := hI1.put h3 f3
        go_wp2_with fail
        refine (write_rune_z B B _ 34 (by decide +kernel) _ hI3.1 (by simp; omega) hI3.room).mono ?_
        rintro e w4 ⟨⟨q, rfl⟩, h4, f4⟩
        have hI4 := hI3.put h4 f4
        go_wp2_with fail
        exact q_done hp hg HBF.out HC.out hll HIT.out hI4 (by rw [← HZ.out 34 rfl, List.append_assoc]; exact q_letter l 34 _ (by omega) (by decide +kernel))
      by_cases c92 : z = 92
      · subst c92
        go_wp2_with fail
        refine (write_byte B B l 92 (by decide) _ hI1.1 (by omega) hI1.room).mono ?_
        rintro e w3 ⟨rfl, h3, f3⟩
        have hI3 := hI1.put h3 f3
        go_wp2_with fail
        refine (write_rune_z B B _ 92 (by decide +kernel) _ hI3.1 (by simp; omega) hI3.room).mono ?_
        rintro e w4 ⟨⟨q, rfl⟩, h4, f4⟩
        have hI4 := hI3.put h4 f4
        go_wp2_with fail
        exact q_done hp hg HBF.out HC.out hll HIT.out hI4 (by rw [← HZ.out 92 rfl, List.append_assoc]; exact q_letter l 92 _ (by omega) (by decide +kernel))
      by_cases c8 : z = 8
      · subst c8
        go_wp2_with fail
        refine (write_string B B l ⟨#[92, 98]⟩ _ hI1.1 (by omega) (by decide) hI1.room).mono ?_
        rintro e w3 ⟨rfl, h3, f3⟩
        have hI3 := hI1.put h3 f3
        go_wp2_with fail
        exact q_done hp hg HBF.out HC.out hll HIT.out hI3 (by rw [← HZ.out 8 rfl]; exact q_letter l 8 _ (by omega) (by decide +kernel))
      by_cases c12 : z = 12
      · subst c12
        go_wp2_with fail
        refine (write_string B B l ⟨#[92, 102]⟩ _ hI1.1 (by omega) (by decide) hI1.room).mono ?_
        rintro e w3 ⟨rfl, h3, f3⟩
        have hI3 := hI1.put h3 f3
        go_wp2_with fail
        exact q_done hp hg HBF.out HC.out hll HIT.out hI3 (by rw [← HZ.out 12 rfl]; exact q_letter l 12 _ (by omega) (by decide +kernel))
      by_cases c10 : z = 10
      · subst c10
        go_wp2_with fail
        refine (write_string B B l ⟨#[92, 110]⟩ _ hI1.1 (by omega) (by decide) hI1.room).mono ?_
        rintro e w3 ⟨rfl, h3, f3⟩
        have hI3 := hI1.put h3 f3
        go_wp2_with fail
        exact q_done hp hg HBF.out HC.out hll HIT.out hI3 (by rw [← HZ.out 10 rfl]; exact q_letter l 10 _ (by omega) (by decide +kernel))
      by_cases c13 : z = 13
      · subst c13
        go_wp2_with fail
        refine (write_string B B l ⟨#[92, 114]⟩ _ hI1.1 (by omega) (by decide) hI1.room).mono ?_
        rintro e w3 ⟨rfl, h3, f3⟩
        have hI3 := hI1.put h3 f3
        go_wp2_with fail
        exact q_done hp hg HBF.out HC.out hll HIT.out hI3 (by rw [← HZ.out 13 rfl]; exact q_letter l 13 _ (by omega) (by decide +kernel))
      by_cases c9 : z = 9
      · subst c9
        go_wp2_with fail
        refine (write_string B B l ⟨#[92, 116]⟩ _ hI1.1 (by omega) (by decide) hI1.room).mono ?_
        rintro e w3 ⟨rfl, h3, f3⟩
        have hI3 := hI1.put h3 f3
        go_wp2_with fail
        exact q_done hp hg HBF.out HC.out hll HIT.out hI3 (by rw [← HZ.out 9 rfl]; exact q_letter l 9 _ (by omega) (by decide +kernel))
      by_cases hlo : z < 32
      · go_wp2_with fail
        refine (put_low_z B B l z hz0 hlo _ HTw.out hI1.1 (by omega) hI1.room).mono ?_
        rintro e w3 ⟨rfl, h3, f3⟩
        have hI3 := hI1.put h3 f3
        go_wp2_with fail
        refine q_done hp hg HBF.out HC.out hll HIT.out hI3 ?_
        rw [← HZ2.out]
        exact q_letter l z.toNat _ (by omega) (qb_low z.toNat (by omega) (by omega) (by omega) (by omega) (by omega) (by omega))
      · have hhi : 32 ≤ z := by omega
        clear hlo
        go_wp2_with fail
        refine (put_high_z B B l z HR hhi _ hI1.1 (by omega) hI1.room).mono ?_
        rintro e w3 ⟨rfl, h3, f3⟩
        have hI3 := hI1.put h3 f3
        go_wp2_with fail
        refine q_done hp hg HBF.out HC.out hll HIT.out hI3 ?_
        rw [← HZ2.out, qIn_other z.toNat (isR_nat z HR.out).2 (by omega) (by omega) (by omega)]
    · have hnx : ∀ ty, (Instr.next (.pointer (some ⟨w2.heap.size, 0, none⟩)) true ty).run Tryz.prog wr = _ := fun ty => Lib.run_next_end_at wr w2.heap.size s pos ty hI.2.1 hp
      go_wp2_with fail
      refine (write_byte B B l 34 (by decide) _ hI.1 (by omega) hI.room).mono ?_
      rintro e w3 ⟨rfl, h3, f3⟩
      have hI3 := hI.put h3 f3
      go_wp2_with fail
      refine (Tryz.Builder_String_any _ _ _ _ hI3.1 hI3.room).mono ?_
      rintro e w4 ⟨rfl, hb4⟩
      go_wp2_with fail
      go_ret2
      refine ⟨?_, hb1.trans ((hI3.2.2.1.trans hb4).mono (HBB.out ▸ hb1.size))⟩
      have e1 := HC.out
      rw [List.drop_of_length_le (by rw [← Lib.size_eq]; omega)] at e1
      have e2 : l = 34 :: qIn s.data.toList := by simpa [qIn] using e1
      rw [e2]
      rfl
end Go.Proofs.YtejniiehfangkaaGreatDoor
