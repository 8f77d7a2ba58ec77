/- path.Of, and the reference's. -/
import Derived.Test.YtmdlcalnncncjaaPOfP
set_option linter.unusedVariables false
set_option linter.unusedSimpArgs false
namespace Go.Proofs.Ytmdlcalnncncjaa
open Go.RowKit
theorem info72 : (Try.prog.info? 72).map (fun i => (i.zero, i.size, i.bytes)) = some (some (.agg #[.string ByteArray.empty, .int .i64 0, .bool false]), 3, 32) := by kernel_rfl
/-- Steps in a row of one's own are a path. -/
theorem path_of_own {w : World} {base : Nat} {A : Option Addr} {n c : Nat} {ps : List St} (h : w.ownsRow base 72 3 (.slice A n c) n (ps.flatMap St.cells)) (hn : n = ps.length) (hok : ∀ s ∈ ps, s.ok) : PathAt w A ps := by
  intro i s hs
  have hi : i < ps.length := (List.getElem?_eq_some_iff.1 hs).1
  have hr := row_of_own (S := fun _ => True) St.cells ps (fun _ => rfl) h (fun _ _ => trivial) (.inr (by decide))
  obtain ⟨ad, e, _, hc⟩ := hr (by simp; omega)
  have hc' := hc i s.cells (by simp [hs])
  refine ⟨ad, e, ?_, At3.of fun j u hj => ?_, hok s (List.mem_of_getElem? hs)⟩
  · have := World.block_lt_of_cell? w _ (hc' 0 _ rfl)
    rwa [adb] at this ⊢
  · rw [ada]; exact hc' j u hj
theorem own_cap {w : World} {base : Nat} {e : TypeId} {size n c : Nat} {A : Option Addr} {xs : List Value} (h : w.ownsRow base e size (.slice A n c) n xs) : n ≤ c := by
  rcases h.2 with ⟨_, h0⟩ | ⟨g, cap, cur, hv, _, _, hle, _⟩
  · omega
  · injection hv with _ _ h3; omega
/-- The loop that puts steps behind each other. -/
structure LoopS (w : World) (l : List Va) (i : Nat) (wr : World) (ps : List St) (A' : Option Addr) (c' : Nat) : Prop where
  bel : Below w.heap.size w wr
  own : wr.ownsRow w.heap.size 72 3 (.slice A' i c') i (ps.flatMap St.cells)
  ofl : ofL (l.take i) = some ps
  ok : ∀ s ∈ ps, s.ok
theorem LoopS.len {w wr : World} {l : List Va} {i : Nat} {ps : List St} {A' : Option Addr} {c' : Nat} (h : LoopS w l i wr ps A' c') (hi : i ≤ l.length) : ps.length = i := by
  rw [ofL_len h.ofl, List.length_take]; omega
theorem LoopS.step {w wr wq w3 : World} {l : List Va} {i g cap : Nat} {ps : List St} {A' : Option Addr} {c' : Nat} {x : Va} {s : St} (H : LoopS w l i wr ps A' c') (hx : l[i]? = some x) (hs : elSt x = some s) (hok : s.ok) (hbq : Below wr.heap.size wr wq)
    (hown : w3.ownsRow w.heap.size 72 3 (.slice (some ⟨g, 0, none⟩) (i + 1) cap) (i + 1) (ps.flatMap St.cells ++ s.cells)) (hgrow : wq.grownBy w3 (Value.slice A' i c').ownBlock) : LoopS w l (i + 1) w3 (ps ++ [s]) (some ⟨g, 0, none⟩) cap := by
  have h1 := H.bel.size
  refine ⟨(H.bel.trans (hbq.mono h1)).grown hgrow (by have := hbq.size; omega) (fun k hk => (own_lo H.own hk).1), ?_, ofL_next H.ofl hx hs, fun t ht => ?_⟩
  · rw [List.flatMap_append]; simpa using hown
  · rcases List.mem_append.1 ht with ht | ht
    · exact H.ok t ht
    · simp at ht; subst ht; exact hok
theorem ok_key {s : ByteArray} (h : s.size ≤ maxLen) : St.ok ⟨s, 0, false⟩ := ⟨h, show (-9223372036854775808 : Int) ≤ 0 by decide, show (0 : Int) ≤ 9223372036854775807 by decide⟩
theorem ok_place {n : Int} (h : -9223372036854775808 ≤ n ∧ n ≤ 9223372036854775807) : St.ok ⟨ByteArray.empty, n, true⟩ := ⟨show ByteArray.empty.size ≤ maxLen by decide, h⟩
/-- What Of answers. -/
def OfQ (a : Va) (w : World) (e : Ending) (w' : World) : Prop := ∃ (A : Option Addr) (n c : Nat) (ps : List St) (er : Int), e = .returned (.tuple #[.slice A n c, .int .i64 er]) ∧ n = ps.length ∧ ps.length ≤ c ∧ PathAt w' A ps ∧ Below w.heap.size w w' ∧ ((er = 0 ∧ ofV a = some ps) ∨ (er = 1 ∧ ps = [] ∧ ofV a = none))
theorem OfQ.no {a : Va} {w w' : World} (h : ofV a = none) (hb : Below w.heap.size w w') : OfQ a w (.returned (.tuple #[.slice none 0 0, .int .i64 1])) w' := ⟨none, 0, 0, [], 1, rfl, rfl, Nat.le_refl _, PathAt.nil _ _, hb, .inr ⟨rfl, rfl, h⟩⟩
set_option maxHeartbeats 2000000 in
set_option maxRecDepth 100000 in
theorem of_prog (a : Va) (S : Nat → Prop) (h : Hd) (w : World) (H : Lies w S a h) (hsh : a.Sh) (hcn : a.cnt ≤ 1000) : Calls Try.prog 45 #[h.val] w fun e w' => OfQ a w e w' := by
  obtain ⟨k, n, s, l, ks, f⟩ := a
  have HH := Lib.hid H
  have HOP := Lib.hid H.op
  have HSH := Lib.hid hsh
  simp only [Lies] at H
  obtain ⟨⟨e1, e2, e3, e4, e5, e6⟩, ⟨hkb, _⟩, -⟩ := H
  obtain ⟨hk, hnn, hs, A, la, lc, F, lf, fc⟩ := h
  simp only at e1 e2 e3 e4 e5 e6
  subst e1 e4
  have hll : l.length ≤ 1000 := by have := len_le_cntL l; simp only [Va.cnt] at hcn; omega
  obtain ⟨i0, hi0, hz0, hz1, hz2⟩ := info_parts info72
  have hb0 := one_alloc w (Obj.cells #[.int .i64 hk, .int .i64 hnn, .string hs, .slice A l.length lc, .slice F lf fc] 25)
  have hbx := BoxAt.start w ⟨hk, hnn, hs, A, l.length, lc, F, lf, fc⟩ 25
  have K1 := Lib.hid (right_prog _ S ⟨hk, hnn, hs, A, l.length, lc, F, lf, fc⟩ (w.alloc (Obj.cells #[.int .i64 hk, .int .i64 hnn, .string hs, .slice A l.length lc, .slice F lf fc] 25)) (HH.out.below hb0 (Nat.le_refl _)) HSH.out hcn)
  have HB0 := Lib.hid hb0
  have HBX := Lib.hid hbx
  clear hb0 hbx hcn hsh e2 e3 e5 e6
  unfold Hd.val at *
  simp only at K1 ⊢
  by_cases h4 : hk = 4
  case neg =>
    have h4' := bq_no h4
    have h4n : (hk != 4) = true := by simp [h4]
    have HNO : Hid (ofV (.mk hk n s l ks f) = none) := Lib.hid (ofV_kind h4)
    clear h4 K1
    go_enter Try.func45, Try.ntmps45
    go_wp2_with fail
    go_ret2
    exact OfQ.no HNO.out HB0.out
  subst h4
  go_enter Try.func45, Try.ntmps45
  go_wp2_with fail
  refine K1.out.mono ?_
  rintro e w1 ⟨r, rfl, hr, hb1⟩
  have HR := Lib.hid hr
  have hb1w := (after_alloc hb1).1
  have hlt1 := (after_alloc hb1).2.1
  have q3 := (after_alloc hb1).2.2 3 _ rfl
  have HBW := Lib.hid hb1w
  clear hb1 hr K1 hb1w
  cases r
  · have HNO : Hid (ofV (.mk 4 n s l ks f) = none) := Lib.hid (ofV_wrong fun h => absurd (HR.out.2 h) (by decide))
    go_wp2_with fail
    go_ret2
    exact OfQ.no HNO.out HBW.out
  have HY := Lib.hid (HR.out.1 rfl)
  clear HR
  have HOV : Hid (ofV (.mk 4 n s l ks f) = ofM (ofL l)) := Lib.hid (ofV_yes HY.out)
  go_wp2_with fail
  go_loopw [4, 18] (fun pv iv wr => ∃ (i : Nat) (ps : List St) (A' : Option Addr) (c' : Nat), iv = .int .i64 i ∧ pv = .slice A' i c' ∧ i ≤ l.length ∧ LoopS w1 l i wr ps A' c') (fun _ iv _ => l.length - (intOf iv).toNat)
  case atStart => exact ⟨0, [], none, 0, rfl, rfl, Nat.zero_le _, ⟨Below.refl _ _, World.ownsRow_nil _ _ _ _, rfl, by simp⟩⟩
  case round =>
    obtain ⟨i, ps, A', c', rfl, rfl, hi, hL⟩ := hrel
    have HL := Lib.hid hL
    have HBr := Lib.hid (show Below w.heap.size w wr from HBW.out.trans (hL.bel.mono HBW.out.size))
    have hsz := hL.bel.size
    have hpl := hL.len hi
    clear hL
    by_cases hlt : i < l.length
    · obtain ⟨x, hx⟩ : ∃ x, l[i]? = some x := ⟨l[i], List.getElem?_eq_getElem hlt⟩
      obtain ⟨ad, u, hA, _, hab, hLu, hat⟩ := HOP.out.L i x hx
      simp only at hA
      subst hA
      obtain ⟨k0, k1, k2, k3, k4⟩ := hat.below HBr.out hab
      have HX := Lib.hid hx
      have hxs : Hid (x.Sh) := Lib.hid (by have := HSH.out; simp only [Va.Sh] at this; exact ShL_mem this.2.1 (List.mem_of_getElem? hx))
      obtain ⟨xk, xn, xs, xl, xks, xf⟩ := x
      have hux : u.k = xk ∧ u.n = xn ∧ u.s = xs := by simp only [Lies] at hLu; exact ⟨hLu.1.1, hLu.1.2.1, hLu.1.2.2.1⟩
      have hub : (-9223372036854775808 ≤ xn ∧ xn ≤ 9223372036854775807) ∧ xs.size ≤ maxLen := by simp only [Lies] at hLu; exact ⟨hLu.2.1.2.1, hLu.2.1.2.2.1⟩
      have HUB := Lib.hid hub
      obtain ⟨uk, un, us, uA, ula, ulc, uF, ulf, ufc⟩ := u
      simp only at hux k0 k1 k2 k3 k4
      obtain ⟨rfl, rfl, rfl⟩ := hux
      have hus : us.size ≤ 500 := by have := hxs.out; simp only [Va.Sh] at this; exact this.1
      have K3 := Lib.hid (show i + 1 ≤ maxLen by unfold maxLen; omega)
      have K4 := Lib.hid (show (i + 1) * 32 ≤ 140737488355328 by omega)
      have hba := one_alloc wr (Obj.cells #[.int .i64 uk, .int .i64 un, .string us, .slice uA ula ulc, .slice uF ulf ufc] 25)
      have HBA := Lib.hid hba
      clear hx hLu hat hub hba
      by_cases hu3 : uk = 3
      · subst hu3
        have KK := Lib.hid (step_key us (by omega) (wr.alloc (Obj.cells #[.int .i64 3, .int .i64 un, .string us, .slice uA ula ulc, .slice uF ulf ufc] 25)))
        have HEL : Hid (elSt (.mk 3 un us xl xks xf) = some ⟨us, 0, false⟩) := Lib.hid rfl
        go_wp2_with fail
        refine KK.out.mono ?_
        rintro e w5 ⟨rfl, hb5⟩
        have hb5w := HBA.out.trans (hb5.mono (by simp))
        have HB5 := Lib.hid hb5w
        have HO5 := Lib.hid (own_below HL.out.own hb5w (Nat.le_refl _))
        have hs5 := hb5w.size
        clear hb5 hb5w KK
        go_wp2_with (at_builtin; refine wpList_append_lies _ rfl _ _ 50 rfl w1.heap.size 72 i0 _ 3 32 Try.underlying50 hi0 hz0 hz1 hz2 rfl (by decide) (.slice A' i c') i (ps.flatMap St.cells) rfl (own_below HO5.out (one_alloc w5 _) (Nat.le_refl _)) ⟨w5.heap.size, 0, none⟩ 1 1 (St.cells ⟨us, 0, false⟩) rfl rfl (World.news_of_block (heap_alloc_new w5 _)) (by simp [St.cells, Value.oneCell']) (by decide) K3.out K4.out (by simp; omega) _ rfl ?_; intro g cap w3 hown3 hgrow3 hat3 hlt3)
        exact ⟨⟨i + 1, _, _, _, by go_num, rfl, by omega, HL.out.step HX.out HEL.out (ok_key HUB.out.2) (HB5.out.trans ((one_alloc w5 _).mono HB5.out.size)) hown3 hgrow3⟩, by simp [intOf]; omega⟩
      · by_cases hu2 : uk = 2
        · subst hu2
          have KK := Lib.hid (step_place un (wr.alloc (Obj.cells #[.int .i64 2, .int .i64 un, .string us, .slice uA ula ulc, .slice uF ulf ufc] 25)))
          have HEL : Hid (elSt (.mk 2 un us xl xks xf) = some ⟨ByteArray.empty, un, true⟩) := Lib.hid rfl
          clear hu3
          go_wp2_with fail
          refine KK.out.mono ?_
          rintro e w5 ⟨rfl, hb5⟩
          have hb5w := HBA.out.trans (hb5.mono (by simp))
          have HB5 := Lib.hid hb5w
          have HO5 := Lib.hid (own_below HL.out.own hb5w (Nat.le_refl _))
          have hs5 := hb5w.size
          clear hb5 hb5w KK
          go_wp2_with (at_builtin; refine wpList_append_lies _ rfl _ _ 50 rfl w1.heap.size 72 i0 _ 3 32 Try.underlying50 hi0 hz0 hz1 hz2 rfl (by decide) (.slice A' i c') i (ps.flatMap St.cells) rfl (own_below HO5.out (one_alloc w5 _) (Nat.le_refl _)) ⟨w5.heap.size, 0, none⟩ 1 1 (St.cells ⟨⟨#[]⟩, un, true⟩) rfl rfl (World.news_of_block (heap_alloc_new w5 _)) (by simp [St.cells, Value.oneCell']) (by decide) K3.out K4.out (by simp; omega) _ rfl ?_; intro g cap w3 hown3 hgrow3 hat3 hlt3)
          exact ⟨⟨i + 1, _, _, _, by go_num, rfl, by omega, HL.out.step HX.out HEL.out (ok_place HUB.out.1) (HB5.out.trans ((one_alloc w5 _).mono HB5.out.size)) hown3 hgrow3⟩, by simp [intOf]; omega⟩
        · have h3' := bq_no hu3
          have h2' := bq_no hu2
          have HNO : Hid (ofV (.mk 4 n s l ks f) = none) := Lib.hid (by rw [HOV.out, ofL_none (List.mem_of_getElem? HX.out) (by simp only [elSt]; rw [if_neg hu3, if_neg hu2])]; rfl)
          clear hu3 hu2
          go_wp2_with fail
          go_ret2
          exact OfQ.no HNO.out (HBr.out.trans (HBA.out.mono HBr.out.size))
    · obtain rfl : i = l.length := by omega
      have HPA := Lib.hid (path_of_own HL.out.own hpl.symm HL.out.ok)
      have HCP := Lib.hid (own_cap HL.out.own)
      have HOL : Hid (ofL l = some ps) := Lib.hid (by have := HL.out.ofl; rwa [List.take_length] at this)
      have KR := Lib.hid (path_right ps A' l.length c' wr hpl.symm (by unfold maxLen; omega) HPA.out)
      go_wp2_with fail
      refine KR.out.mono ?_
      rintro e w5 ⟨r, rfl, hr, hb5⟩
      have HR := Lib.hid hr
      have HB5 := Lib.hid hb5
      clear hr hb5 KR
      cases r
      · have HNO : Hid (ofV (.mk 4 n s l ks f) = none) := Lib.hid (by rw [HOV.out, HOL.out, ofM_no (fun h => absurd (HR.out.2 h) (by decide))])
        go_wp2_with fail
        go_ret2
        exact OfQ.no HNO.out (HBr.out.trans (HB5.out.mono HBr.out.size))
      · have HYE : Hid (ofV (.mk 4 n s l ks f) = some ps) := Lib.hid (by rw [HOV.out, HOL.out, ofM_yes (HR.out.1 rfl)])
        go_wp2_with fail
        go_ret2
        exact ⟨A', l.length, c', ps, 0, rfl, hpl.symm, by have := HCP.out; omega, HPA.out.below HB5.out (Nat.le_refl _), HBr.out.trans (HB5.out.mono HBr.out.size), .inl ⟨rfl, HYE.out⟩⟩
end Go.Proofs.Ytmdlcalnncncjaa
