/- The reference's Of. -/
import Derived.Test.YtmdlcalnncncjaaPOf
set_option linter.unusedVariables false
set_option linter.unusedSimpArgs false
namespace Go.Proofs.Ytmdlcalnncncjaa
open Go.RowKit
/-- The step that the reference makes of a value. -/
def reSt : Va → St
  | .mk k n s _ _ _ => ⟨s, n, k == 2⟩
/-- What the reference goes on at. -/
def reOk : Va → Prop
  | .mk k n _ _ _ _ => (k = 2 ∨ k = 3) ∧ 0 ≤ n
/-- Of right values both tell the same step. -/
theorem re_el {x : Va} {d : Nat} (hR : x.R d) (hok : reOk x) : elSt x = some (reSt x) := by
  obtain ⟨k, n, s, l, ks, f⟩ := x
  simp only [Va.R] at hR
  have ht := hR.2.1
  simp only [reOk] at hok
  simp only [elSt, reSt]
  rcases hok.1 with rfl | rfl
  · have hs : s = ByteArray.empty := empty_of (Classical.byContradiction fun h => ht.c2 ⟨by decide, h⟩)
    subst hs
    rfl
  · have hn : n = 0 := Classical.byContradiction fun h => ht.c1 ⟨by decide, by decide, h⟩
    subst hn
    rfl
theorem ofL_mem {x : Va} {s : St} : ∀ {l : List Va} {p : List St}, ofL l = some p → x ∈ l → elSt x = some s → s ∈ p
  | y :: r, p, h, hx, hs => by
    simp only [ofL] at h
    cases hy : elSt y with
    | none => rw [hy] at h; simp at h
    | some t =>
      cases hr : ofL r with
      | none => rw [hy, hr] at h; simp at h
      | some q =>
        rw [hy, hr] at h
        simp only [Option.some.injEq] at h
        subst h
        rcases List.mem_cons.1 hx with rfl | hx
        · rw [hy] at hs; cases hs; exact List.mem_cons_self ..
        · exact List.mem_cons_of_mem _ (ofL_mem hr hx hs)
/-- Where the reference gives up, so does the other. -/
theorem re_no {l : List Va} {x : Va} {d : Nat} (hR : x.R d) (hx : x ∈ l) (hno : ¬ reOk x) : ofM (ofL l) = none := by
  cases ho : ofL l with
  | none => rfl
  | some p =>
    refine ofM_no fun hp => ?_
    have hel : elSt x ≠ none := fun h => by rw [ofL_none hx h] at ho; cases ho
    obtain ⟨k, n, s, l', ks, f⟩ := x
    simp only [Va.R] at hR
    have ht := hR.2.1
    simp only [reOk] at hno
    by_cases h3 : k = 3
    · subst h3
      have hn : n = 0 := Classical.byContradiction fun h => ht.c1 ⟨by decide, by decide, h⟩
      exact hno ⟨.inr rfl, by omega⟩
    · by_cases h2 : k = 2
      · subst h2
        have hm := ofL_mem (s := ⟨ByteArray.empty, n, true⟩) ho hx rfl
        rcases hp.2 _ hm with ⟨_, _, h, _⟩ | ⟨h, _⟩
        · exact hno ⟨.inl rfl, h⟩
        · cases h
      · exact hel (by simp only [elSt]; rw [if_neg h3, if_neg h2])
theorem re_all : ∀ {l : List Va} {d : Nat}, RL l d → (∀ x ∈ l, reOk x) → ofL l = some (l.map reSt)
  | [], _, _, _ => rfl
  | x :: r, d, hR, hok => by
    simp only [RL] at hR
    rw [ofL, re_el hR.1 (hok x (by simp)), re_all hR.2 (fun y hy => hok y (by simp [hy]))]
    rfl
/-- What the reference's Of answers. -/
def OfB (a : Va) (w : World) (e : Ending) (w' : World) : Prop := ∃ (A : Option Addr) (n c : Nat) (ps : List St) (ok : Bool), e = .returned (.tuple #[.slice A n c, .bool ok]) ∧ n = ps.length ∧ ps.length ≤ c ∧ PathAt w' A ps ∧ Below w.heap.size w w' ∧ ((ok = true ∧ ofV a = some ps) ∨ (ok = false ∧ ps = [] ∧ ofV a = none))
theorem OfB.no {a : Va} {w w' : World} (h : ofV a = none) (hb : Below w.heap.size w w') : OfB a w (.returned (.tuple #[.slice none 0 0, .bool false])) w' := ⟨none, 0, 0, [], false, rfl, rfl, Nat.le_refl _, PathAt.nil _ _, hb, .inr ⟨rfl, rfl, h⟩⟩
/-- The reference's loop. -/
structure LoopO (w : World) (h : Hd) (l : List Va) (i : Nat) (wr : World) (A' : Option Addr) (c' : Nat) : Prop where
  box : BoxAt w wr h
  own : wr.ownsRow (w.heap.size + 1) 72 3 (.slice A' i c') i (((l.take i).map reSt).flatMap St.cells)
  ok : ∀ x ∈ l.take i, reOk x ∧ (reSt x).ok
theorem LoopO.step {w wr wq w3 : World} {h : Hd} {l : List Va} {i g cap : Nat} {A' : Option Addr} {c' : Nat} {x : Va} (H : LoopO w h l i wr A' c') (hx : l[i]? = some x) (hok : reOk x) (hst : (reSt x).ok) (hbq : Below wr.heap.size wr wq)
    (hown : w3.ownsRow (w.heap.size + 1) 72 3 (.slice (some ⟨g, 0, none⟩) (i + 1) cap) (i + 1) (((l.take i).map reSt).flatMap St.cells ++ (reSt x).cells)) (hgrow : wq.grownBy w3 (Value.slice A' i c').ownBlock) : LoopO w h l (i + 1) w3 (some ⟨g, 0, none⟩) cap := by
  have h1 := H.box.1.size
  have h2 := H.box.2.1
  have hb3 : Below (w.heap.size + 1) wr w3 := (hbq.mono h2).grown hgrow (by have := hbq.size; omega) (fun k hk => (own_lo H.own hk).1)
  refine ⟨⟨H.box.1.trans (hb3.mono (by omega)), by have := hb3.size; omega, fun j c hc => (hb3.cell (p := ⟨w.heap.size, j, none⟩) (Nat.lt_succ_self _)).trans (H.box.2.2 j c hc)⟩, ?_, fun y hy => ?_⟩
  · rw [take_next hx, List.map_append, List.flatMap_append]; simpa using hown
  · rw [take_next hx] at hy
    rcases List.mem_append.1 hy with hy | hy
    · exact H.ok y hy
    · simp at hy; subst hy; exact ⟨hok, hst⟩
set_option maxHeartbeats 2000000 in
set_option maxRecDepth 100000 in
theorem of_ref (a : Va) (S : Nat → Prop) (h : Hd) (w : World) (H : Lies w S a h) (hsh : a.Sh) (hcn : a.cnt ≤ 1000) : Calls Try.prog 48 #[h.val] w fun e w' => OfB a w e w' := by
  obtain ⟨k, n, s, l, ks, f⟩ := a
  have HH := Lib.hid H
  have HOP := Lib.hid H.op
  have HSH := Lib.hid hsh
  simp only [Lies] at H
  obtain ⟨⟨e1, e2, e3, e4, e5, e6⟩, ⟨hkb, _⟩, -⟩ := H
  obtain ⟨hk, hnn, hs, A, la, lc, F, lf, fc⟩ := h
  simp only at e1 e2 e3 e4 e5 e6
  subst e1 e4
  have hll : l.length ≤ 1000 := by have := len_le_cntL l; simp only [Va.cnt] at hcn; omega
  obtain ⟨i0, hi0, hz0, hz1, hz2⟩ := info_parts info72
  clear hcn hsh e2 e3 e5 e6
  unfold Hd.val at *
  simp only
  go_enter Try.func48, Try.ntmps48
  go_wp2_with fail
  go_loopw [4, 5] (fun pv iv wr => ∃ (i : Nat) (A' : Option Addr) (c' : Nat), iv = .int .i64 i ∧ pv = .slice A' i c' ∧ i ≤ l.length ∧ LoopO w ⟨hk, hnn, hs, A, l.length, lc, F, lf, fc⟩ l i wr A' c') (fun _ iv _ => l.length - (intOf iv).toNat)
  case atStart => exact ⟨0, none, 0, rfl, rfl, Nat.zero_le _, ⟨BoxAt.start w ⟨hk, hnn, hs, A, l.length, lc, F, lf, fc⟩ 25, World.ownsRow_nil _ _ _ _, by simp⟩⟩
  case round =>
    obtain ⟨i, A', c', rfl, rfl, hi, hL⟩ := hrel
    have HL := Lib.hid hL
    have HBr := Lib.hid hL.box.1
    have hsz := hL.box.2.1
    have b0 := hL.box.2.2 0 _ rfl
    have b1 := hL.box.2.2 1 _ rfl
    have b2 := hL.box.2.2 2 _ rfl
    have b3 := hL.box.2.2 3 _ rfl
    have b4 := hL.box.2.2 4 _ rfl
    clear hL
    by_cases hlt : i < l.length
    · obtain ⟨x, hx⟩ : ∃ x, l[i]? = some x := ⟨l[i], List.getElem?_eq_getElem hlt⟩
      obtain ⟨ad, u, hA, _, hab, hLu, hat⟩ := HOP.out.L i x hx
      simp only at hA
      subst hA
      obtain ⟨k0, k1, k2, k3, k4⟩ := hat.below HBr.out hab
      have HX := Lib.hid hx
      have HNO := Lib.hid (show ¬ reOk x → ofV (.mk hk n s l ks f) = none from fun hno => by
        by_cases h4 : hk = 4
        · subst h4
          by_cases hR : (Va.mk 4 n s l ks f).R 12
          · rw [ofV_yes hR]
            have hR2 := hR
            simp only [Va.R] at hR2
            exact re_no (RL_mem hR2.2.2.2.1 (List.mem_of_getElem? hx)) (List.mem_of_getElem? hx) hno
          · exact ofV_wrong hR
        · exact ofV_kind h4)
      obtain ⟨xk, xn, xs, xl, xks, xf⟩ := x
      have hux : u.k = xk ∧ u.n = xn ∧ u.s = xs := by simp only [Lies] at hLu; exact ⟨hLu.1.1, hLu.1.2.1, hLu.1.2.2.1⟩
      have hub : (-9223372036854775808 ≤ xn ∧ xn ≤ 9223372036854775807) ∧ xs.size ≤ maxLen := by simp only [Lies] at hLu; exact ⟨hLu.2.1.2.1, hLu.2.1.2.2.1⟩
      have HUB := Lib.hid hub
      obtain ⟨uk, un, us, uA, ula, ulc, uF, ulf, ufc⟩ := u
      simp only at hux k0 k1 k2 k3 k4
      obtain ⟨rfl, rfl, rfl⟩ := hux
      have K3 := Lib.hid (show i + 1 ≤ maxLen by unfold maxLen; omega)
      have K4 := Lib.hid (show (i + 1) * 32 ≤ 140737488355328 by omega)
      have hba := one_alloc wr (Obj.cells #[.int .i64 uk, .int .i64 un, .string us, .slice uA ula ulc, .slice uF ulf ufc] 25)
      have HBA := Lib.hid hba
      clear hx hLu hat hub hba
      by_cases hu : uk = 2 ∨ uk = 3
      case neg =>
        have h3 : ¬ uk = 3 := fun h => hu (.inr h)
        have h2 : ¬ uk = 2 := fun h => hu (.inl h)
        have h3' := bq_no h3
        have h2' := bq_no h2
        have h3n : (uk != 3) = true := by simp [h3]
        have h2n : (uk != 2) = true := by simp [h2]
        have HN := Lib.hid (HNO.out fun h => hu h.1)
        clear hu h2 h3
        go_wp2_with fail
        go_ret2
        exact OfB.no HN.out (HBr.out.trans (HBA.out.mono HBr.out.size))
      have HU := Lib.hid hu
      clear hu
      by_cases hn0 : un < 0
      · have HN := Lib.hid (HNO.out fun h => by have := h.2; omega)
        rcases HU.out with rfl | rfl
        · go_wp2_with fail
          go_ret2
          exact OfB.no HN.out (HBr.out.trans (HBA.out.mono HBr.out.size))
        · go_wp2_with fail
          go_ret2
          exact OfB.no HN.out (HBr.out.trans (HBA.out.mono HBr.out.size))
      · have HOK : Hid (reOk (.mk uk un us xl xks xf)) := Lib.hid ⟨HU.out, by omega⟩
        rcases HU.out with rfl | rfl
        · clear HU
          go_wp2_with (at_builtin; refine wpList_append_lies _ rfl _ _ 50 rfl (w.heap.size + 1) 72 i0 _ 3 32 Try.underlying50 hi0 hz0 hz1 hz2 rfl (by decide) (.slice A' i c') i (((l.take i).map reSt).flatMap St.cells) rfl (own_below HL.out.own (two_allocs wr _ _) (Nat.le_refl _)) ⟨wr.heap.size + 1, 0, none⟩ 1 1 (St.cells ⟨us, un, true⟩) rfl rfl (news_two wr _ _ _) (by simp [St.cells, Value.oneCell']) (by decide) K3.out K4.out (by simp; omega) _ rfl ?_; intro g cap w3 hown3 hgrow3 hat3 hlt3)
          exact ⟨⟨i + 1, _, _, by go_num, rfl, by omega, HL.out.step HX.out HOK.out ⟨HUB.out.2, HUB.out.1⟩ (two_allocs wr _ _) hown3 hgrow3⟩, by simp [intOf]; omega⟩
        · clear HU
          go_wp2_with (at_builtin; refine wpList_append_lies _ rfl _ _ 50 rfl (w.heap.size + 1) 72 i0 _ 3 32 Try.underlying50 hi0 hz0 hz1 hz2 rfl (by decide) (.slice A' i c') i (((l.take i).map reSt).flatMap St.cells) rfl (own_below HL.out.own (two_allocs wr _ _) (Nat.le_refl _)) ⟨wr.heap.size + 1, 0, none⟩ 1 1 (St.cells ⟨us, un, false⟩) rfl rfl (news_two wr _ _ _) (by simp [St.cells, Value.oneCell']) (by decide) K3.out K4.out (by simp; omega) _ rfl ?_; intro g cap w3 hown3 hgrow3 hat3 hlt3)
          exact ⟨⟨i + 1, _, _, by go_num, rfl, by omega, HL.out.step HX.out HOK.out ⟨HUB.out.2, HUB.out.1⟩ (two_allocs wr _ _) hown3 hgrow3⟩, by simp [intOf]; omega⟩
    · obtain rfl : i = l.length := by omega
      have HPA := Lib.hid (path_of_own (ps := l.map reSt) (by have := HL.out.own; rwa [List.take_length] at this) (by simp) (fun s hs => by
        obtain ⟨x, hx, rfl⟩ := List.mem_map.1 hs
        exact (HL.out.ok x (by rw [List.take_length]; exact hx)).2))
      have HCP := Lib.hid (own_cap HL.out.own)
      by_cases h4 : hk = 4
      case neg =>
        have h4' := bq_no h4
        have h4n : (hk != 4) = true := by simp [h4]
        have HN : Hid (ofV (.mk hk n s l ks f) = none) := Lib.hid (ofV_kind h4)
        clear h4
        go_wp2_with fail
        go_ret2
        exact OfB.no HN.out HBr.out
      subst h4
      have KR := Lib.hid (rightref (.mk 4 n s l ks f) S ⟨4, hnn, hs, A, l.length, lc, F, lf, fc⟩ wr (HH.out.below HBr.out (Nat.le_refl _)) HSH.out)
      unfold Hd.val at KR
      simp only at KR
      go_wp2_with fail
      refine KR.out.mono ?_
      rintro e w5 ⟨r, rfl, hr, hb5⟩
      have HR := Lib.hid hr
      have HB5 := Lib.hid (HBr.out.trans (hb5.mono HBr.out.size))
      have HP5 := Lib.hid (HPA.out.below hb5 (Nat.le_refl _))
      clear hr hb5 KR
      cases r
      · have HN : Hid (ofV (.mk 4 n s l ks f) = none) := Lib.hid (ofV_wrong fun h => absurd (HR.out.2 h) (by decide))
        go_wp2_with fail
        go_ret2
        exact OfB.no HN.out HB5.out
      have HY := Lib.hid (HR.out.1 rfl)
      have HOV : Hid (ofV (.mk 4 n s l ks f) = ofM (some (l.map reSt))) := Lib.hid (by
        have hR2 := HY.out
        simp only [Va.R] at hR2
        rw [ofV_yes HY.out, re_all hR2.2.2.2.1 (fun x hx => (HL.out.ok x (by rw [List.take_length]; exact hx)).1)])
      have KP := Lib.hid (path_right_ref (l.map reSt) A' l.length c' w5 (by simp) (by simp; unfold maxLen; omega) HP5.out (fun s hs => by
        obtain ⟨x, hx, rfl⟩ := List.mem_map.1 hs
        obtain ⟨xk, xn, xs, xl, xks, xf⟩ := x
        have h1 := HSH.out
        simp only [Va.Sh] at h1
        have h2 := ShL_mem h1.2.1 hx
        simp only [Va.Sh] at h2
        show xs.size ≤ _
        omega))
      go_wp2_with fail
      refine KP.out.mono ?_
      rintro e w6 ⟨r, rfl, hr, hb6⟩
      have HR6 := Lib.hid hr
      have HB6 := Lib.hid (HB5.out.trans (hb6.mono HB5.out.size))
      have HP6 := Lib.hid (HP5.out.below hb6 (Nat.le_refl _))
      clear hr hb6 KP
      cases r
      · have HN : Hid (ofV (.mk 4 n s l ks f) = none) := Lib.hid (by rw [HOV.out, ofM_no (fun h => absurd (HR6.out.2 h) (by decide))])
        go_wp2_with fail
        go_ret2
        exact OfB.no HN.out HB6.out
      · have HYE : Hid (ofV (.mk 4 n s l ks f) = some (l.map reSt)) := Lib.hid (by rw [HOV.out, ofM_yes (HR6.out.1 rfl)])
        go_wp2_with fail
        go_ret2
        exact ⟨A', l.length, c', l.map reSt, true, rfl, by simp, by have := HCP.out; simp; omega, HP6.out, HB6.out, .inl ⟨rfl, HYE.out⟩⟩
end Go.Proofs.Ytmdlcalnncncjaa
