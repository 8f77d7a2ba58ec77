/- Several of the texts that this claim leans on, one behind the other. -/
import Derived.Test.YtejniiehfangkaaGreatDoorJoined1TokenPlain
/- The text of many tokens: the document's own Plain. -/
set_option linter.unusedVariables false
set_option linter.unusedSimpArgs false
namespace Go.Proofs.YtejniiehfangkaaGreatDoor
open Go.RowKit
/-- How the document's own writes a token, if it may be. -/
def oneQ (k : Int) (s : ByteArray) : Toks → Option ByteArray
  | .inl [t] => if (t.k : Int) = k ∧ (⟨t.s.toArray⟩ : ByteArray) = s then some s else none
  | _ => none
def oneR (k : Int) (s : ByteArray) : Option ByteArray := if k = 4 then (if rightB s = true then some (quoteB s) else none) else oneQ k s (lexR s)
theorem add_zero' (ad : Addr) : ad.add 0 = ad := by unfold Addr.add; split <;> simp_all
theorem oneQ_no {k : Int} {s : ByteArray} {ts : List Tkn} (h : ¬ ts.length = 1) : oneQ k s (.inl ts) = none := by
  match ts, h with
  | [], _ => rfl
  | _ :: _ :: _, _ => rfl
theorem bytes_inj {a b : ByteArray} (h : a.toList = b.toList) : a = b := by
  rw [Lib.toList_data, Lib.toList_data] at h
  exact ByteArray.ext (Array.toList_inj.1 h)
def plrL : Bool → List Tz → Option (List UInt8)
  | _, [] => some []
  | f, (k, s, _) :: l => match oneR k s, plrL false l with
    | some t, some u => some ((if f then [] else [32]) ++ t.data.toList ++ u)
    | _, _ => none
def plrB (l : List Tz) : ByteArray := ⟨((plrL true l).getD []).toArray⟩
theorem plrL_none {f : Bool} {z : Tz} {l : List Tz} (h : oneR z.1 z.2.1 = none) : plrL f (z :: l) = none := by
  obtain ⟨k, s, a⟩ := z
  unfold plrL
  rw [show oneR k s = none from h]
theorem plrL_some {f : Bool} {z : Tz} {l : List Tz} {t : ByteArray} (h : oneR z.1 z.2.1 = some t) : plrL f (z :: l) = (plrL false l).map (((if f then [] else [32]) ++ t.data.toList) ++ ·) := by
  obtain ⟨k, s, a⟩ := z
  conv => lhs; unfold plrL
  rw [show oneR k s = some t from h]
  cases plrL false l <;> rfl
theorem plr_pln (h : ∀ k s, s.size ≤ 60 → oneR k s = oneP k s) : ∀ (l : List Tz) (f : Bool), (∀ z ∈ l, z.2.1.size ≤ 60) → plrL f l = plnL f l
  | [], _, _ => by unfold plrL plnL; rfl
  | z :: l, f, hl => by
    have e := h z.1 z.2.1 (hl z (by simp))
    have ih := plr_pln h l false (fun z hz => hl z (by simp [hz]))
    cases ho : oneP z.1 z.2.1 with
    | none => rw [plnL_none ho, plrL_none (e.trans ho)]
    | some t => rw [plnL_some ho, plrL_some (e.trans ho), ih]
def QJ (zs : List Tz) (k : Nat) (l : List UInt8) : Prop := (plrL (k == 0) (zs.drop k)).map (l ++ ·) = plrL true zs
theorem QJ.start (zs : List Tz) : QJ zs 0 [] := by
  unfold QJ
  rw [List.drop_zero]
  show (plrL true zs).map _ = _
  cases plrL true zs <;> rfl
theorem QJ.none {zs : List Tz} {k : Nat} {z : Tz} {l : List UInt8} (h : QJ zs k l) (hz : zs[k]? = some z) (ho : oneR z.1 z.2.1 = none) : plrB zs = ⟨#[]⟩ := by
  unfold QJ at h
  rw [drop_at' hz, plrL_none ho] at h
  unfold plrB
  rw [← h]; rfl
theorem QJ.first {zs : List Tz} {k : Nat} {z : Tz} {t o : ByteArray} (h : QJ zs k o.data.toList) (hk : k = 0) (hz : zs[k]? = some z) (ho : oneR z.1 z.2.1 = some t) : QJ zs (k + 1) (o ++ t).data.toList := by
  subst hk
  unfold QJ at h ⊢
  rw [drop_at' hz, plrL_some ho] at h
  rw [← h]
  show (plrL false (zs.drop 1)).map _ = _
  cases plrL false (zs.drop (0 + 1)) <;> simp
theorem QJ.next {zs : List Tz} {k : Nat} {z : Tz} {t o : ByteArray} (h : QJ zs k o.data.toList) (hk : 1 ≤ k) (hz : zs[k]? = some z) (ho : oneR z.1 z.2.1 = some t) : QJ zs (k + 1) ((o ++ ⟨#[32]⟩) ++ t).data.toList := by
  unfold QJ at h ⊢
  rw [drop_at' hz, plrL_some ho] at h
  rw [← h, show (k + 1 == 0) = false from rfl, show (k == 0) = false from by simp; omega]
  cases plrL false (zs.drop (k + 1)) <;> simp
theorem QJ.end {zs : List Tz} {k : Nat} {o : ByteArray} (h : QJ zs k o.data.toList) (hk : zs.length ≤ k) : plrB zs = o := by
  unfold QJ at h
  rw [List.drop_of_length_le hk] at h
  unfold plrB
  rw [← h]
  simp [plrL]
theorem sz_next {o T : ByteArray} {k : Nat} (h : o.size ≤ k * 30000) (hT : T.size ≤ 362) : ((o ++ ⟨#[32]⟩) ++ T).size ≤ (k + 1) * 30000 := by
  obtain ⟨u, hu⟩ : ∃ u : ByteArray, (⟨#[32]⟩ : ByteArray) = u := ⟨_, rfl⟩
  have h1 : u.size = 1 := by rw [← hu]; rfl
  rw [hu, ByteArray.size_append, ByteArray.size_append]
  omega
set_option maxHeartbeats 2000000 in
set_option maxRecDepth 100000 in
theorem rplain_any (a : Option Addr) (n c : Nat) (zs : List Tz) (hz : zs.length = n) (hn : n ≤ 1000) (hs : ∀ z ∈ zs, z.2.1.size ≤ 60) (w : World) (hT : TkL w a zs) (hL : LV w) : Calls Tryz.prog 15 #[.slice a n c] w fun e w' => e = .returned (.string (plrB zs)) ∧ Below w.heap.size w w' := by
  have HT := Lib.hid hT
  have HL := Lib.hid hL
  have HZ := Lib.hid hz
  clear hT hL hz
  go_enter Tryz.func15, Tryz.ntmps15
  go_wp2_with fail
  go_loopw [3, 4] (fun v3 v wr => ∃ (k : Nat) (o : ByteArray), v3 = .string o ∧ v = .int .i64 (k : Nat) ∧ k ≤ n ∧ Below w.heap.size w wr ∧ QJ zs k o.data.toList ∧ o.size ≤ k * 30000) (fun _ v _ => n - (intOf v).toNat)
  case atStart => exact ⟨0, ⟨#[]⟩, rfl, rfl, Nat.zero_le _, Below.refl _ _, QJ.start zs, by decide⟩
  case round =>
    obtain ⟨k, o, rfl, rfl, hk, hbr, hj, hlen⟩ := hrel
    have HBR := Lib.hid hbr
    have HJ := Lib.hid hj
    clear hbr hj
    by_cases hlt : k < n
    · obtain ⟨z, hzk⟩ : ∃ z, zs[k]? = some z := ⟨zs[k]'(by have := HZ.out; omega), List.getElem?_eq_getElem _⟩
      have HZK := Lib.hid hzk
      obtain ⟨ad, hae, hadb, hzz⟩ := HT.out.below HBR.out (by intro e; rw [e] at hzk; simp at hzk)
      subst hae
      have HAT := Lib.hid (hzz k z hzk)
      have hsz := hs z (List.mem_of_getElem? hzk)
      obtain ⟨K, hK⟩ : ∃ K, z.1 = K := ⟨_, rfl⟩
      obtain ⟨S, hS⟩ : ∃ S, z.2.1 = S := ⟨_, rfl⟩
      have c0 : wr.cell? (ad.add (k * 3)) = some (.int .i64 K) := by rw [← hK]; exact HAT.out.1
      have c1 : wr.cell? ⟨(ad.add (k * 3)).block, (ad.add (k * 3)).off + 1, none⟩ = some (.string S) := by rw [← hS]; exact HAT.out.2.1
      rw [hS] at hsz
      have HO : Hid (oneR z.1 z.2.1 = oneR K S) := Lib.hid (by rw [hK, hS])
      clear hzz hzk hK hS hs HAT
      by_cases h4 : K = 4
      · subst h4
        cases hr : rightB S with
        | false =>
          have KR : Hid (∀ w, Calls Tryz.prog 30 #[.string S] w fun e w' => e = .returned (.bool false) ∧ w = w') := Lib.hid (fun w => by rw [← hr]; exact right_ref S (by omega) w)
          have HP := Lib.hid (QJ.none HJ.out HZK.out (HO.out.trans (by unfold oneR; rw [if_pos rfl, hr]; rfl)))
          clear hr
          go_wp2_with fail
          refine (KR.out _).mono ?_
          rintro e w1 ⟨rfl, rfl⟩
          go_wp2_with fail
          go_ret
          refine ⟨?_, HBR.out⟩
          rw [HP.out]
          rfl
        | true =>
          have KR : Hid (∀ w, Calls Tryz.prog 30 #[.string S] w fun e w' => e = .returned (.bool true) ∧ w = w') := Lib.hid (fun w => by rw [← hr]; exact right_ref S (by omega) w)
          have hq : oneR 4 S = some (quoteB S) := by unfold oneR; rw [if_pos rfl, hr]; rfl
          have hqz : (quoteB S).size ≤ 362 := by
            have := (qIn_len S.data.toList).2
            rw [quoteB_size]; rw [← Lib.size_eq] at this; omega
          obtain ⟨T, hT⟩ : ∃ T, quoteB S = T := ⟨_, rfl⟩
          have KQ : Hid (∀ w, Calls Tryz.prog 31 #[.string S] w fun e w' => e = .returned (.string T) ∧ Below w.heap.size w w') := Lib.hid (fun w => by rw [← hT]; exact quote_ref S (by omega) w)
          rw [hT] at hqz hq
          have HO2 := Lib.hid (HO.out.trans hq)
          clear hr hT hq
          by_cases hk0 : k = 0
          · have HP := Lib.hid (QJ.first HJ.out hk0 HZK.out HO2.out)
            have hgt : decide ((0 : Int) < (k : Int)) = false := decide_eq_false (by omega)
            have hk1 : k < 1 := by omega
            clear hk0
            go_wp2_with fail
            refine (KR.out _).mono ?_
            rintro e w1 ⟨rfl, rfl⟩
            go_wp2_with fail
            refine (KQ.out _).mono ?_
            rintro e w2 ⟨rfl, hb2⟩
            have HB2 := Lib.hid (HBR.out.trans (hb2.mono HBR.out.size))
            clear hb2
            go_wp2_with fail
            exact ⟨⟨k + 1, o ++ T, rfl, by go_num, by omega, HB2.out, HP.out, by rw [ByteArray.size_append]; omega⟩, by simp [intOf]; omega⟩
          · have hk1 : 1 ≤ k := by omega
            have hgt : decide ((0 : Int) < (k : Int)) = true := decide_eq_true (by omega)
            have HP := Lib.hid (QJ.next HJ.out hk1 HZK.out HO2.out)
            go_wp2_with fail
            refine (KR.out _).mono ?_
            rintro e w1 ⟨rfl, rfl⟩
            go_wp2_with fail
            refine (KQ.out _).mono ?_
            rintro e w2 ⟨rfl, hb2⟩
            have HB2 := Lib.hid (HBR.out.trans (hb2.mono HBR.out.size))
            clear hb2
            go_wp2_with fail
            exact ⟨⟨k + 1, (o ++ ⟨#[32]⟩) ++ T, rfl, by go_num, by omega, HB2.out, HP.out, sz_next hlen hqz⟩, by simp [intOf]; omega⟩
      · have hk4 : (K == 4) = false := by simpa using h4
        have hone : oneR K S = oneQ K S (lexR S) := by unfold oneR; rw [if_neg h4]
        clear h4
        have hadl : (ad.add (k * 3)).block < wr.heap.size := by rw [add_blk]; exact hadb
        have KX : Hid (∀ w, Calls Tryz.prog 11 #[.string S] w (LxQ (lexR S) w)) := Lib.hid (fun w => rlex_read S (by omega) w)
        cases hq : lexR S with
        | inr q =>
          obtain ⟨er, at_⟩ := q
          rw [hq] at KX hone
          have hne : (er != 0) = true := by
            have := (lexB_err (hq ▸ (lexR_is S (by omega)).symm)).1
            simpa using this
          have HP := Lib.hid (QJ.none HJ.out HZK.out (HO.out.trans hone))
          clear hq hone
          go_wp2_with fail
          refine (KX.out _).mono ?_
          rintro e w2 ⟨hb2, rfl⟩
          have d0 : ∀ o, (w2.alloc o).cell? (ad.add (k * 3)) = some (.int .i64 K) := fun o => (((Below.refl w2.heap.size w2).alloc (Nat.le_refl _) o).cell (p := ad.add (k * 3)) (Nat.lt_of_lt_of_le hadl hb2.size)).trans ((hb2.cell (p := ad.add (k * 3)) hadl).trans c0)
          have HB2 := Lib.hid (HBR.out.trans (hb2.mono HBR.out.size))
          clear hb2
          go_wp2_with fail
          go_quiet (fail)
          go_wp2_with fail
          go_ret
          refine ⟨?_, Go.below_drewN (HB2.out.alloc HB2.out.size _) _⟩
          rw [HP.out]
          rfl
        | inl ts =>
          rw [hq] at KX hone
          clear hq
          by_cases hl1 : ts.length = 1
          · obtain ⟨t, rfl⟩ : ∃ t, ts = [t] := by
              match ts, hl1 with
              | [t], _ => exact ⟨t, rfl⟩
            clear hl1
            obtain ⟨K', hK'⟩ : ∃ K' : Int, (t.k : Int) = K' := ⟨_, rfl⟩
            obtain ⟨S', hS'⟩ : ∃ S' : ByteArray, (⟨t.s.toArray⟩ : ByteArray) = S' := ⟨_, rfl⟩
            have hcs : (((K' != K) = true) ∧ oneR K S = none) ∨ ((K' != K) = false ∧ (S'.toList == S.toList) = false ∧ oneR K S = none) ∨ ((K' != K) = false ∧ (S'.toList == S.toList) = true ∧ oneR K S = some S) := by
              have hq1 : oneR K S = if K' = K ∧ S' = S then some S else none := by rw [hone, ← hK', ← hS']; rfl
              rw [hq1]
              by_cases h1 : K' = K
              · by_cases h2 : S' = S
                · exact .inr (.inr ⟨by simpa using h1, by rw [h2]; simp, if_pos ⟨h1, h2⟩⟩)
                · exact .inr (.inl ⟨by simpa using h1, by rw [beq_eq_false_iff_ne]; exact fun h => h2 (bytes_inj h), if_neg (fun h => h2 h.2)⟩)
              · exact .inl ⟨by simpa using h1, if_neg (fun h => h1 h.1)⟩
            rcases hcs with ⟨g1, g3⟩ | ⟨g1, g2, g3⟩ | ⟨g1, g2, g3⟩
            · have HP := Lib.hid (QJ.none HJ.out HZK.out (HO.out.trans g3))
              clear hone g3
              go_wp2_with fail
              refine (KX.out _).mono ?_
              rintro e w2 ⟨hb2, a', c', he, hT⟩
              have he := (show e = .returned (.tuple #[.slice a' 1 c', .agg #[.int .i64 0, .int .i64 0]]) from he)
              subst he
              obtain ⟨ad', rfl, hadb', hz'⟩ := hT (by simp)
              have h3 := hz' 0 (tz t) rfl
              rw [show 0 * 3 = 0 from rfl, add_zero'] at h3
              have e0 : ∀ o, (w2.alloc o).cell? ad' = some (.int .i64 K') := fun o => (((Below.refl w2.heap.size w2).alloc (Nat.le_refl _) o).cell (p := ad') hadb').trans (by rw [← hK']; exact h3.1)
              have e1 : ∀ o, (w2.alloc o).cell? ⟨ad'.block, ad'.off + 1, none⟩ = some (.string S') := fun o => (World.cell?_alloc_past _ _ _ hadb').trans (by rw [← hS']; exact h3.2.1)
              have d0 : ∀ o, (w2.alloc o).cell? (ad.add (k * 3)) = some (.int .i64 K) := fun o => (((Below.refl w2.heap.size w2).alloc (Nat.le_refl _) o).cell (p := ad.add (k * 3)) (Nat.lt_of_lt_of_le hadl hb2.size)).trans ((hb2.cell (p := ad.add (k * 3)) hadl).trans c0)
              have HB2 := Lib.hid (HBR.out.trans (hb2.mono HBR.out.size))
              clear hb2 hT hz' h3 hK' hS'
              go_wp2_with fail
              go_quiet (fail)
              go_wp2_with fail
              go_ret
              refine ⟨?_, Go.below_drewN (HB2.out.alloc HB2.out.size _) _⟩
              rw [HP.out]
              rfl
            · have HP := Lib.hid (QJ.none HJ.out HZK.out (HO.out.trans g3))
              clear hone g3
              go_wp2_with fail
              refine (KX.out _).mono ?_
              rintro e w2 ⟨hb2, a', c', he, hT⟩
              have he := (show e = .returned (.tuple #[.slice a' 1 c', .agg #[.int .i64 0, .int .i64 0]]) from he)
              subst he
              obtain ⟨ad', rfl, hadb', hz'⟩ := hT (by simp)
              have h3 := hz' 0 (tz t) rfl
              rw [show 0 * 3 = 0 from rfl, add_zero'] at h3
              have e0 : ∀ o, (w2.alloc o).cell? ad' = some (.int .i64 K') := fun o => (((Below.refl w2.heap.size w2).alloc (Nat.le_refl _) o).cell (p := ad') hadb').trans (by rw [← hK']; exact h3.1)
              have e1 : ∀ o, (w2.alloc o).cell? ⟨ad'.block, ad'.off + 1, none⟩ = some (.string S') := fun o => (World.cell?_alloc_past _ _ _ hadb').trans (by rw [← hS']; exact h3.2.1)
              have d0 : ∀ o, (w2.alloc o).cell? (ad.add (k * 3)) = some (.int .i64 K) := fun o => (((Below.refl w2.heap.size w2).alloc (Nat.le_refl _) o).cell (p := ad.add (k * 3)) (Nat.lt_of_lt_of_le hadl hb2.size)).trans ((hb2.cell (p := ad.add (k * 3)) hadl).trans c0)
              have HB2 := Lib.hid (HBR.out.trans (hb2.mono HBR.out.size))
              clear hb2 hT hz' h3 hK' hS'
              go_wp2_with fail
              go_quiet (fail)
              go_wp2_with fail
              go_ret
              refine ⟨?_, Go.below_drewN (HB2.out.alloc HB2.out.size _) _⟩
              rw [HP.out]
              rfl
            · have HO2 := Lib.hid (HO.out.trans g3)
              have hqz : S.size ≤ 362 := by omega
              clear hone g3
              by_cases hk0 : k = 0
              · have HP := Lib.hid (QJ.first HJ.out hk0 HZK.out HO2.out)
                have hgt : decide ((0 : Int) < (k : Int)) = false := decide_eq_false (by omega)
                have hk1 : k < 1 := by omega
                clear hk0
                go_wp2_with fail
                refine (KX.out _).mono ?_
                rintro e w2 ⟨hb2, a', c', he, hT⟩
                have he := (show e = .returned (.tuple #[.slice a' 1 c', .agg #[.int .i64 0, .int .i64 0]]) from he)
                subst he
                obtain ⟨ad', rfl, hadb', hz'⟩ := hT (by simp)
                have h3 := hz' 0 (tz t) rfl
                rw [show 0 * 3 = 0 from rfl, add_zero'] at h3
                have e0 : ∀ o, (w2.alloc o).cell? ad' = some (.int .i64 K') := fun o => (((Below.refl w2.heap.size w2).alloc (Nat.le_refl _) o).cell (p := ad') hadb').trans (by rw [← hK']; exact h3.1)
                have e1 : ∀ o, (w2.alloc o).cell? ⟨ad'.block, ad'.off + 1, none⟩ = some (.string S') := fun o => (World.cell?_alloc_past _ _ _ hadb').trans (by rw [← hS']; exact h3.2.1)
                have d0 : ∀ o, (w2.alloc o).cell? (ad.add (k * 3)) = some (.int .i64 K) := fun o => (((Below.refl w2.heap.size w2).alloc (Nat.le_refl _) o).cell (p := ad.add (k * 3)) (Nat.lt_of_lt_of_le hadl hb2.size)).trans ((hb2.cell (p := ad.add (k * 3)) hadl).trans c0)
                have HB2 := Lib.hid (HBR.out.trans (hb2.mono HBR.out.size))
                clear hb2 hT hz' h3 hK' hS'
                go_wp2_with fail
                go_quiet (fail)
                go_wp2_with fail
                exact ⟨⟨k + 1, o ++ S, rfl, by go_num, by omega, Go.below_drewN (HB2.out.alloc HB2.out.size _) _, HP.out, by rw [ByteArray.size_append]; omega⟩, by simp [intOf]; omega⟩
              · have hk1 : 1 ≤ k := by omega
                have hgt : decide ((0 : Int) < (k : Int)) = true := decide_eq_true (by omega)
                have HP := Lib.hid (QJ.next HJ.out hk1 HZK.out HO2.out)
                go_wp2_with fail
                refine (KX.out _).mono ?_
                rintro e w2 ⟨hb2, a', c', he, hT⟩
                have he := (show e = .returned (.tuple #[.slice a' 1 c', .agg #[.int .i64 0, .int .i64 0]]) from he)
                subst he
                obtain ⟨ad', rfl, hadb', hz'⟩ := hT (by simp)
                have h3 := hz' 0 (tz t) rfl
                rw [show 0 * 3 = 0 from rfl, add_zero'] at h3
                have e0 : ∀ o, (w2.alloc o).cell? ad' = some (.int .i64 K') := fun o => (((Below.refl w2.heap.size w2).alloc (Nat.le_refl _) o).cell (p := ad') hadb').trans (by rw [← hK']; exact h3.1)
                have e1 : ∀ o, (w2.alloc o).cell? ⟨ad'.block, ad'.off + 1, none⟩ = some (.string S') := fun o => (World.cell?_alloc_past _ _ _ hadb').trans (by rw [← hS']; exact h3.2.1)
                have d0 : ∀ o, (w2.alloc o).cell? (ad.add (k * 3)) = some (.int .i64 K) := fun o => (((Below.refl w2.heap.size w2).alloc (Nat.le_refl _) o).cell (p := ad.add (k * 3)) (Nat.lt_of_lt_of_le hadl hb2.size)).trans ((hb2.cell (p := ad.add (k * 3)) hadl).trans c0)
                have HB2 := Lib.hid (HBR.out.trans (hb2.mono HBR.out.size))
                clear hb2 hT hz' h3 hK' hS'
                go_wp2_with fail
                go_quiet (fail)
                go_wp2_with fail
                exact ⟨⟨k + 1, (o ++ ⟨#[32]⟩) ++ S, rfl, by go_num, by omega, Go.below_drewN (HB2.out.alloc HB2.out.size _) _, HP.out, sz_next hlen hqz⟩, by simp [intOf]; omega⟩
          · have hne : ((ts.length : Int) != 1) = true := by simp; omega
            have HP := Lib.hid (QJ.none HJ.out HZK.out (HO.out.trans (hone.trans (oneQ_no hl1))))
            clear hl1 hone
            go_wp2_with fail
            refine (KX.out _).mono ?_
            rintro e w2 ⟨hb2, a', c', rfl, hT⟩
            have d0 : ∀ o, (w2.alloc o).cell? (ad.add (k * 3)) = some (.int .i64 K) := fun o => (((Below.refl w2.heap.size w2).alloc (Nat.le_refl _) o).cell (p := ad.add (k * 3)) (Nat.lt_of_lt_of_le hadl hb2.size)).trans ((hb2.cell (p := ad.add (k * 3)) hadl).trans c0)
            have HB2 := Lib.hid (HBR.out.trans (hb2.mono HBR.out.size))
            clear hb2 hT
            go_wp2_with fail
            go_quiet (fail)
            go_wp2_with fail
            go_ret
            refine ⟨?_, Go.below_drewN (HB2.out.alloc HB2.out.size _) _⟩
            rw [HP.out]
            rfl
    · obtain rfl : k = n := by omega
      have HP := Lib.hid (QJ.end HJ.out (by have := HZ.out; omega))
      go_wp2_with fail
      go_ret
      refine ⟨?_, HBR.out⟩
      rw [HP.out]
      rfl
end Go.Proofs.YtejniiehfangkaaGreatDoor

/- Many names, and one long remark; plain. -/
set_option linter.unusedVariables false
set_option linter.unusedSimpArgs false
namespace Go.Proofs.YtejniiehfangkaaGreatDoor
/-- Bytes below 80 are a text. -/
theorem badF_ascii (s : ByteArray) (h : ∀ j, j < s.size → (s.get! j).toNat < 128) : ∀ f i, badF s f i = -1
  | 0, _ => rfl
  | f + 1, i => by
    unfold badF
    by_cases hi : i < s.size
    · rw [if_pos hi, (size_one s i hi (h i hi)).2]
      simp only [Bool.false_eq_true, if_false]
      exact badF_ascii s h f _
    · rw [if_neg hi]
theorem bad_ascii (s : ByteArray) (h : ∀ c ∈ s.data.toList, c.toNat < 128) : badI s = -1 := by
  unfold badI
  refine badF_ascii s (fun j hj => ?_) _ _
  refine h _ (List.mem_iff_getElem.2 ⟨j, by rw [← Lib.size_eq]; exact hj, ?_⟩)
  exact get_bang_data s j hj
/-- So many names of one letter, a blank behind each. -/
def repA : Nat → List UInt8
  | 0 => []
  | k + 1 => 97 :: 32 :: repA k
theorem repA_len : ∀ k, (repA k).length = 2 * k
  | 0 => rfl
  | k + 1 => by simp only [repA, List.length_cons, repA_len k]; omega
theorem repA_snoc : ∀ k, repA k ++ [97, 32] = repA (k + 1)
  | 0 => rfl
  | k + 1 => by
    show 97 :: 32 :: (repA k ++ [97, 32]) = 97 :: 32 :: repA (k + 1)
    rw [repA_snoc k]
theorem repA_ascii : ∀ k, ∀ c ∈ repA k, c.toNat < 128
  | 0 => by simp [repA]
  | k + 1 => by
    intro c hc
    simp only [repA, List.mem_cons] at hc
    rcases hc with rfl | rfl | hc
    · decide
    · decide
    · exact repA_ascii k c hc
theorem betw_rep (j : Nat) : betw false (32 :: repA j) = 1 ∧ betw false (repA j) = 0 := by
  have h0 : betw false (repA j) = 0 := by
    cases j with
    | zero => rfl
    | succ j => exact bgB_betw 97 _ (by decide)
  refine ⟨?_, h0⟩
  show (if (32 : UInt8).toNat = 10 ∨ (32 : UInt8).toNat = 13 then _ else if (32 : UInt8).toNat = 35 then _ else if (32 : UInt8).toNat = 32 ∨ (32 : UInt8).toNat = 9 ∨ (32 : UInt8).toNat = 44 then betw false (repA j) + 1 else _) = 1
  rw [if_neg (by decide), if_neg (by decide), if_pos (by decide), h0]
theorem fst_rep (j : Nat) : fstL (97 :: 32 :: repA j) = .ok 2 [97] 1 := rfl
theorem rep_lex : ∀ (j f e n : Nat) (nb : Bool), 2 * j + 1 < f → n ≤ 900 →
    (n + j ≤ 900 → ∃ ts, lexF f (32 :: repA j) e n nb = .inl ts ∧ ts.length = j) ∧ (900 < n + j → lexF f (32 :: repA j) e n nb = .inr (6, e + 1 + 2 * (900 - n)))
  | 0, 0, e, n, nb, hf, _ => by omega
  | 0, f + 1, e, n, nb, hf, hn => by
    rw [lexF_end (by rw [(betw_rep 0).1]; simp [repA])]
    exact ⟨fun _ => ⟨[], rfl, rfl⟩, fun h => by omega⟩
  | j + 1, 0, e, n, nb, hf, _ => by omega
  | j + 1, f + 1, e, n, nb, hf, hn => by
    have hb := (betw_rep (j + 1)).1
    have hlt : betw false (32 :: repA (j + 1)) < (32 :: repA (j + 1)).length := by rw [hb]; simp [repA]
    by_cases h9 : n = 900
    · rw [lexF_many hlt h9, hb]
      refine ⟨fun h => by omega, fun _ => ?_⟩
      rw [h9]
    · have hp : ¬ (betw false (32 :: repA (j + 1)) = 0 ∧ nb = true ∧ hdP (32 :: repA (j + 1)) = true) := by rw [hb]; rintro ⟨h, _⟩; cases h
      have hx : fstL ((32 :: repA (j + 1)).drop (betw false (32 :: repA (j + 1)))) = .ok 2 [97] 1 := by rw [hb]; exact fst_rep j
      rw [lexF_ok hlt h9 hp hx, hb]
      have hd : (32 :: repA (j + 1)).drop (1 + 1) = 32 :: repA j := rfl
      rw [hd]
      obtain ⟨i1, i2⟩ := rep_lex j f (e + 1 + 1) (n + 1) (2 == 3) (by omega) (by omega)
      refine ⟨fun h => ?_, fun h => ?_⟩
      · obtain ⟨ts, h1, h2⟩ := i1 (by omega)
        rw [h1]
        exact ⟨⟨2, [97], e + 1⟩ :: ts, rfl, by simp [h2]⟩
      · rw [i2 (by omega)]
        show Sum.inr _ = Sum.inr _
        congr 2
        omega
theorem rep_size (k : Nat) : (⟨(repA k).toArray⟩ : ByteArray).size = 2 * k := by
  show (repA k).toArray.size = _
  rw [List.size_toArray, repA_len]
/-- What Lex answers of so many names. -/
theorem rep_all (k : Nat) (h1 : 1 ≤ k) (h2 : k ≤ 1000) : (k ≤ 900 → ∃ ts, lexB ⟨(repA k).toArray⟩ = .inl ts ∧ ts.length = k) ∧ (900 < k → lexB ⟨(repA k).toArray⟩ = .inr (6, 1800)) := by
  have hb : badI ⟨(repA k).toArray⟩ = -1 := bad_ascii _ (by simpa using repA_ascii k)
  have hB : lexB ⟨(repA k).toArray⟩ = lexL (repA k) := by
    unfold lexB
    rw [rep_size, if_neg (by omega), hb, if_neg (by decide)]
  rw [hB]
  obtain ⟨j, rfl⟩ : ∃ j, k = j + 1 := ⟨k - 1, by omega⟩
  have hb0 := (betw_rep (j + 1)).2
  have hx : fstL ((repA (j + 1)).drop (betw false (repA (j + 1)))) = .ok 2 [97] 1 := by rw [hb0]; exact fst_rep j
  unfold lexL
  rw [repA_len, lexF_ok (by rw [hb0, repA_len]; omega) (by decide) (by rintro ⟨_, h, _⟩; cases h) hx, hb0]
  have hd : (repA (j + 1)).drop (0 + 1) = 32 :: repA j := rfl
  rw [hd]
  obtain ⟨i1, i2⟩ := rep_lex j (2 * (j + 1)) (0 + 0 + 1) (0 + 1) (2 == 3) (by omega) (by decide)
  refine ⟨fun h => ?_, fun h => ?_⟩
  · obtain ⟨ts, h1, h2⟩ := i1 (by omega)
    rw [h1]
    exact ⟨⟨2, [97], 0 + 0⟩ :: ts, rfl, by simp [h2]⟩
  · rw [i2 (by omega)]
    rfl
theorem betw_x : ∀ n, betw true (List.replicate n (120 : UInt8)) = n
  | 0 => rfl
  | n + 1 => by
    show (if (120 : UInt8).toNat = 10 ∨ (120 : UInt8).toNat = 13 then _ else if (120 : UInt8).toNat = 35 then _ else if (120 : UInt8).toNat = 32 ∨ (120 : UInt8).toNat = 9 ∨ (120 : UInt8).toNat = 44 then _ else if true then betw true (List.replicate n 120) + 1 else 0) = n + 1
    rw [if_neg (by decide), if_neg (by decide), if_neg (by decide), betw_x n]
    rfl
/-- What Lex answers of one remark. -/
theorem rem_all (n : Nat) : lexB ⟨(35 :: List.replicate n (120 : UInt8)).toArray⟩ = if 4000 < n + 1 then .inr (6, 0) else .inl [] := by
  have hs : (⟨(35 :: List.replicate n (120 : UInt8)).toArray⟩ : ByteArray).size = n + 1 := by
    show (35 :: List.replicate n (120 : UInt8)).toArray.size = _
    rw [List.size_toArray, List.length_cons, List.length_replicate]
  have hb : badI ⟨(35 :: List.replicate n (120 : UInt8)).toArray⟩ = -1 := bad_ascii _ (by
    intro c hc
    simp only [List.mem_cons, List.mem_replicate] at hc
    rcases hc with rfl | ⟨_, rfl⟩ <;> decide)
  unfold lexB
  rw [hs, hb]
  by_cases h : 4000 < n + 1
  · rw [if_pos h, if_pos h]
  · rw [if_neg h, if_neg h, if_neg (by decide)]
    unfold lexL
    have hbt : betw false (35 :: List.replicate n (120 : UInt8)) = n + 1 := by
      show (if (35 : UInt8).toNat = 10 ∨ (35 : UInt8).toNat = 13 then _ else if (35 : UInt8).toNat = 35 then betw true (List.replicate n 120) + 1 else _) = n + 1
      rw [if_neg (by decide), if_pos (by decide), betw_x]
    exact lexF_end (by show (35 :: List.replicate n (120 : UInt8)).length ≤ _; rw [hbt, List.length_cons, List.length_replicate]; exact Nat.le_refl _)
end Go.Proofs.YtejniiehfangkaaGreatDoor

/- A token may be written in the program's eyes just where the document's own thinks so; plain. -/
set_option linter.unusedVariables false
set_option linter.unusedSimpArgs false
namespace Go.Proofs.YtejniiehfangkaaGreatDoor
theorem isD_lt {c : UInt8} (h : dgB c = true) : c.toNat < 128 ∧ bgB c = true := by
  unfold dgB isD at h
  unfold bgB
  simp at h ⊢
  omega
theorem nm_lt {c : UInt8} (h : nmB c = true) : c.toNat < 128 ∧ bgB c = true := by
  unfold nmB lrB dgB isD isL at h
  unfold bgB
  simp at h ⊢
  omega
theorem sg_lt {c : UInt8} (h : sgB c = true) : c.toNat < 128 ∧ bgB c = true := by
  unfold sgB at h
  unfold bgB
  simp at h ⊢
  omega
def FAs (l : List UInt8) : Fst → Prop
  | .ok k _ m => k = 4 ∨ ((k = 1 ∨ k = 2 ∨ k = 3) ∧ ∀ c ∈ l.take m, c.toNat < 128)
  | .no _ => True
theorem num_asc (l : List UInt8) : FAs l (numL l) := by
  unfold numL
  split
  · trivial
  · refine .inr ⟨by decide, fun c hc => ?_⟩
    rw [List.take_add, List.mem_append] at hc
    rcases hc with h | h
    · unfold sgN at h
      split at h
      · rename_i h5
        unfold hd45 at h5
        cases l with
        | nil => simp at h
        | cons d t => simp at h h5; subst h; rw [h5]; decide
      · simp at h
    · unfold dgN at h
      split at h
      · rename_i h5
        unfold hd48 at h5
        cases hl : l.drop (sgN l) with
        | nil => rw [hl] at h; simp at h
        | cons d t => rw [hl] at h h5; simp at h h5; subst h; rw [h5]; decide
      · exact (isD_lt (tk_all _ _ c h)).1
theorem nam_asc (l : List UInt8) : FAs l (namL l) := by
  unfold namL
  split
  · trivial
  · exact .inr ⟨by decide, fun c hc => (nm_lt (tk_all _ _ c hc)).1⟩
theorem raw_asc (l : List UInt8) : FAs l (rawL l) := by
  unfold rawL
  cases rawE 0 34 (l.drop 3) with
  | none => trivial
  | some j =>
    simp only
    split
    · trivial
    · exact .inl rfl
theorem str_asc (l : List UInt8) : FAs l (strL l) := by
  unfold strL
  split
  · exact .inl rfl
  · trivial
theorem fst_asc (l : List UInt8) : FAs l (fstL l) := by
  unfold fstL
  cases l with
  | nil => trivial
  | cons c t =>
    simp only
    split
    · rename_i h
      exact .inr ⟨by decide, fun d hd => by simp at hd; subst hd; exact (sg_lt h).1⟩
    split
    · split
      · rename_i h
        rw [List.isPrefixOf_iff_prefix] at h
        obtain ⟨r, hr⟩ := h
        exact .inr ⟨by decide, fun d hd => by rw [← hr] at hd; simp at hd; rw [hd]; decide⟩
      · trivial
    split
    · exact num_asc _
    split
    · split
      · exact raw_asc _
      · exact str_asc _
    · exact nam_asc _
/-- What a token begins with stands not between. -/
theorem fst_betw {l : List UInt8} {k m : Nat} {x : List UInt8} (h : fstL l = .ok k x m) : betw false l = 0 ∧ l ≠ [] := by
  cases l with
  | nil => cases h
  | cons c t =>
    refine ⟨bgB_betw c t ?_, by simp⟩
    unfold fstL at h
    simp only at h
    split at h
    · rename_i h1; exact (sg_lt h1).2
    split at h
    · rename_i h1; unfold bgB; rw [h1]; rfl
    split at h
    · rename_i h1
      rcases h1 with h1 | h1
      · unfold bgB; rw [h1]; rfl
      · exact (isD_lt h1).2
    split at h
    · rename_i h1; unfold bgB; rw [h1]; rfl
    · unfold namL at h
      split at h
      · cases h
      · rename_i h1
        have : nmB c = true := by
          cases hn : nmB c with
          | true => rfl
          | false => exact absurd (by unfold tk; rw [hn]; rfl) h1
        exact (nm_lt this).2
/-- One token alone. -/
theorem lex_one {s : ByteArray} (hs : s.size ≤ 60) {k m : Nat} {x : List UInt8} (hf : fstL s.data.toList = .ok k x m) (hm : m = s.size) (hk : k ≠ 4) : lexB s = .inl [⟨k, s.data.toList, 0⟩] := by
  obtain ⟨hb, hne⟩ := fst_betw hf
  have ha := fst_asc s.data.toList
  have hw := fst_wh s.data.toList
  have hi := fst_in s.data.toList
  rw [hf] at ha hw hi
  have hlen : s.data.toList.length = s.size := (Lib.size_eq s).symm
  have ha2 : ∀ c ∈ s.data.toList.take m, c.toNat < 128 := by
    rcases ha with h | ⟨_, h⟩
    · exact absurd h hk
    · exact h
  have hx : x = s.data.toList := by
    rcases hw with ⟨h, _⟩ | ⟨_, h, _⟩
    · exact absurd h hk
    · rw [h, List.take_of_length_le (by omega)]
  rw [List.take_of_length_le (by omega)] at ha2
  have h1 : 1 ≤ m := hi.1
  unfold lexB
  rw [if_neg (by omega), if_neg (by rw [bad_ascii s ha2]; decide)]
  unfold lexL
  rw [lexF_ok (by omega) (by decide) (by simp) (k := k) (m := m) (x := x) (by rw [hb, List.drop_zero]; exact hf), hb, Nat.zero_add, List.drop_of_length_le (by omega), hlen]
  obtain ⟨f, hfu⟩ : ∃ f, s.size = f + 1 := ⟨s.size - 1, by omega⟩
  rw [hfu, lexF_end (by simp), hx]
  rfl
/-- What is one token alone. -/
theorem lex_one' {s : ByteArray} {t : Tkn} (h : lexB s = .inl [t]) (hk : t.k ≠ 4) (ht : t.s = s.data.toList) : fstL s.data.toList = .ok t.k t.s s.size ∧ (t.k = 1 ∨ t.k = 2 ∨ t.k = 3) := by
  obtain ⟨-, -, hl⟩ := lexB_ok h
  unfold lexL at hl
  have hlen : s.data.toList.length = s.size := (Lib.size_eq s).symm
  by_cases hb : betw false s.data.toList < s.data.toList.length
  · cases hx : fstL (s.data.toList.drop (betw false s.data.toList)) with
    | no j => rw [lexF_no hb (by decide) (by simp) hx] at hl; cases hl
    | ok k x m =>
      rw [lexF_ok hb (by decide) (by simp) hx] at hl
      have hst := fst_step hb hx
      have hw := fst_wh (s.data.toList.drop (betw false s.data.toList))
      have ha := fst_asc (s.data.toList.drop (betw false s.data.toList))
      rw [hx] at hw ha
      have htt : t = ⟨k, x, betw false s.data.toList⟩ := by
        revert hl
        cases lexF s.data.toList.length (s.data.toList.drop (betw false s.data.toList + m)) (0 + betw false s.data.toList + m) (0 + 1) (k == 3) with
        | inl us => intro hl; simp [consT] at hl; exact hl.1.symm
        | inr q => intro hl; cases hl
      subst htt
      simp only at hk ht ⊢
      rcases hw with ⟨h, _⟩ | ⟨_, h2, h3⟩
      · exact absurd h hk
      have h4 : x.length = s.size := by rw [ht, hlen]
      have hb0 : betw false s.data.toList = 0 := by omega
      rw [hb0, List.drop_zero] at hx ha
      refine ⟨?_, ?_⟩
      · rw [hx]; congr 1; omega
      · rcases ha with h | ⟨h, _⟩
        · exact absurd h hk
        · exact h
  · rw [lexF_end (by omega)] at hl; cases hl
theorem one_eq (k : Int) (s : ByteArray) (hs : s.size ≤ 60) : oneR k s = oneP k s := by
  unfold oneR oneP
  by_cases h4 : k = 4
  · rw [if_pos h4, if_pos h4]
  rw [if_neg h4, if_neg h4, lexR_is s (by omega)]
  cases hf : fstL s.data.toList with
  | no b =>
    have h0 : (if k = 1 ∨ k = 2 ∨ k = 3 then pickP k s (.no b) else none) = none := by split <;> rfl
    rw [h0]
    cases hq : lexB s with
    | inr q => rfl
    | inl ts =>
      by_cases hl : ts.length = 1
      · obtain ⟨t, rfl⟩ : ∃ t, ts = [t] := by
          match ts, hl with
          | [t], _ => exact ⟨t, rfl⟩
        unfold oneQ
        simp only
        rw [if_neg]
        rintro ⟨h1, h2⟩
        have := (lex_one' hq (by omega) (by rw [← h2])).1
        rw [hf] at this
        cases this
      · exact oneQ_no hl
  | ok k' x m =>
    by_cases hg : (k' : Int) = k ∧ m = s.size
    · obtain ⟨h1, h2⟩ := hg
      have h3 := lex_one hs hf h2 (by omega)
      have ha := fst_asc s.data.toList
      rw [hf] at ha
      have hk : k = 1 ∨ k = 2 ∨ k = 3 := by
        rcases ha with h | ⟨h, _⟩ <;> omega
      rw [h3, if_pos hk]
      unfold pickP oneQ
      simp only
      rw [if_pos ⟨h1, trivial⟩, if_pos ⟨h1, h2⟩]
    · have h0 : (if k = 1 ∨ k = 2 ∨ k = 3 then pickP k s (.ok k' x m) else none) = none := by
        split
        · exact if_neg hg
        · rfl
      rw [h0]
      cases hq : lexB s with
      | inr q => rfl
      | inl ts =>
        by_cases hl : ts.length = 1
        · obtain ⟨t, rfl⟩ : ∃ t, ts = [t] := by
            match ts, hl with
            | [t], _ => exact ⟨t, rfl⟩
          unfold oneQ
          simp only
          rw [if_neg]
          rintro ⟨h1, h2⟩
          have := (lex_one' hq (by omega) (by rw [← h2])).1
          rw [hf] at this
          injection this with e1 e2 e3
          exact hg ⟨by omega, e3⟩
        · exact oneQ_no hl
theorem plr_is (l : List Tz) (h : ∀ z ∈ l, z.2.1.size ≤ 60) : plrB l = plnB l := by
  unfold plrB plnB
  rw [plr_pln one_eq l true h]
end Go.Proofs.YtejniiehfangkaaGreatDoor

/- TokenPlain (P8.2): Plain tells the text of tokens as the document's own does. The walk. -/
set_option linter.unusedVariables false
set_option linter.unusedSimpArgs false
namespace Go.Proofs.YtejniiehfangkaaGreatDoor.TokenPlain
open Go.RowKit
theorem bytes_same (s : ByteArray) : (s.toList == s.toList) = true := by simp
def ends (W : World) (e : Ending) (W' : World) : Prop := e = .returned (.bool true) ∧ Below W.heap.size W W'
set_option maxHeartbeats 1000000 in
set_option maxRecDepth 100000 in
theorem walk_no (W : World) (hL : LV W) (A : Option Addr) (n c : Nat) (zs : List Tz) (hz : zs.length = n) (hT : TkL W A zs) (hf : fewB 40 zs = false) : Calls Tryz.prog 4 #[.slice A n c] W (ends W) := by
  have HL := Lib.hid hL
  have KF : Hid (∀ w, TkL w A zs → Calls Tryz.prog 13 #[.slice A n c, .int .i64 40] w fun e w' => e = .returned (.bool false) ∧ Below w.heap.size w w') := Lib.hid (fun w hw => by rw [← hf]; exact few_any A n c 40 zs hz w hw)
  have HT := Lib.hid hT
  clear hL hT hf hz
  go_enter Tryz.func4, Tryz.ntmps4
  go_wp2_with fail
  refine (awake_any _ HL.out).mono ?_
  rintro e w1 ⟨rfl, hb1⟩
  have HB1 := Lib.hid hb1
  clear hb1
  go_wp2_with fail
  refine (KF.out _ (HT.out.below HB1.out)).mono ?_
  rintro e w2 ⟨rfl, hb2⟩
  have HB2 := Lib.hid (HB1.out.trans (hb2.mono HB1.out.size))
  clear hb2
  go_wp2_with fail
  refine (awake_any _ (HL.out.go HB2.out)).mono ?_
  rintro e w3 ⟨rfl, hb3⟩
  have HB3 := Lib.hid (HB2.out.trans (hb3.mono HB2.out.size))
  clear hb3
  go_wp2_with fail
  go_ret
  exact ⟨rfl, HB3.out⟩
set_option maxHeartbeats 1000000 in
set_option maxRecDepth 100000 in
theorem walk_yes (W : World) (hL : LV W) (A : Option Addr) (n c : Nat) (zs : List Tz) (hz : zs.length = n) (hn : n ≤ 40) (hs : ∀ z ∈ zs, z.2.1.size ≤ 60) (hT : TkL W A zs) (hf : fewB 40 zs = true) : Calls Tryz.prog 4 #[.slice A n c] W (ends W) := by
  have HL := Lib.hid hL
  have KF : Hid (∀ w, TkL w A zs → Calls Tryz.prog 13 #[.slice A n c, .int .i64 40] w fun e w' => e = .returned (.bool true) ∧ Below w.heap.size w w') := Lib.hid (fun w hw => by rw [← hf]; exact few_any A n c 40 zs hz w hw)
  obtain ⟨P, hP⟩ : ∃ P, plnB zs = P := ⟨_, rfl⟩
  have KP : Hid (∀ w, TkL w A zs → LV w → Calls Tryz.prog 14 #[.slice A n c] w fun e w' => e = .returned (.string P) ∧ Below w.heap.size w w') := Lib.hid (fun w hw hl => by rw [← hP]; exact tplain_any A n c zs hz (by omega) (fun z h => by have := hs z h; omega) w hw hl)
  have KR : Hid (∀ w, TkL w A zs → LV w → Calls Tryz.prog 15 #[.slice A n c] w fun e w' => e = .returned (.string P) ∧ Below w.heap.size w w') := Lib.hid (fun w hw hl => by rw [← hP, ← plr_is zs hs]; exact rplain_any A n c zs hz (by omega) hs w hw hl)
  have HT := Lib.hid hT
  clear hL hT hf hz hs hP
  go_enter Tryz.func4, Tryz.ntmps4
  go_wp2_with fail
  refine (awake_any _ HL.out).mono ?_
  rintro e w1 ⟨rfl, hb1⟩
  have HB1 := Lib.hid hb1
  clear hb1
  go_wp2_with fail
  refine (KF.out _ (HT.out.below HB1.out)).mono ?_
  rintro e w2 ⟨rfl, hb2⟩
  have HB2 := Lib.hid (HB1.out.trans (hb2.mono HB1.out.size))
  clear hb2 KF
  go_wp2_with fail
  refine (KP.out _ (HT.out.below HB2.out) (HL.out.go HB2.out)).mono ?_
  rintro e w3 ⟨rfl, hb3⟩
  have HB3 := Lib.hid (HB2.out.trans (hb3.mono HB2.out.size))
  clear hb3 KP
  go_wp2_with fail
  refine (KR.out _ (HT.out.below HB3.out) (HL.out.go HB3.out)).mono ?_
  rintro e w4 ⟨rfl, hb4⟩
  have HB4 := Lib.hid (HB3.out.trans (hb4.mono HB3.out.size))
  clear hb4 KR
  have hPP := bytes_same P
  go_wp2_with fail
  go_ret
  exact ⟨rfl, HB4.out⟩
theorem walk (W : World) (hL : LV W) (A : Option Addr) (n c : Nat) (zs : List Tz) (hw : IsToks W A n c zs) : Calls Tryz.prog 4 #[.slice A n c] W fun e W' => e = .returned (.bool true) ∧ Below W.heap.size W W' := by
  show Calls _ _ _ _ (ends W)
  obtain ⟨hz, hc, hn, hT, hs⟩ := hw
  unfold maxLen at hn
  cases hf : fewB 40 zs with
  | false => exact walk_no W hL A n c zs hz hT hf
  | true =>
    have h2 := hf
    unfold fewB at h2
    rw [Bool.and_eq_true, decide_eq_true_iff] at h2
    obtain ⟨h3, h4⟩ := h2
    rw [List.take_of_length_le (by omega)] at h3
    exact walk_yes W hL A n c zs hz (by omega) (fun z h => by simpa using List.all_eq_true.1 h3 z h) hT hf
end Go.Proofs.YtejniiehfangkaaGreatDoor.TokenPlain
