/- Where a key is: tree.place, and the reference's At. -/
import Derived.Test.YtmdlcalnncncjaaTOpen
set_option linter.unusedVariables false
set_option linter.unusedSimpArgs false
namespace Go.Proofs.Ytmdlcalnncncjaa
open Go.RowKit
def PlaceP (ks : List ByteArray) (key : ByteArray) (n : Int) : Prop := (n = -1 ∧ key ∉ ks) ∨ ∃ i : Nat, n = (i : Int) ∧ ks[i]? = some key ∧ key ∉ ks.take i
theorem PlaceP.uniq {ks : List ByteArray} {key : ByteArray} {n m : Int} (h : PlaceP ks key n) (k : PlaceP ks key m) : n = m := by
  rcases h with ⟨rfl, h1⟩ | ⟨i, rfl, h1, h2⟩ <;> rcases k with ⟨rfl, k1⟩ | ⟨j, rfl, k1, k2⟩
  · rfl
  · exact absurd (List.mem_of_getElem? k1) h1
  · exact absurd (List.mem_of_getElem? h1) k1
  · rcases Nat.lt_trichotomy i j with hij | hij | hij
    · exact absurd (List.mem_of_getElem? (by rw [List.getElem?_take_of_lt hij]; exact h1)) k2
    · rw [hij]
    · exact absurd (List.mem_of_getElem? (by rw [List.getElem?_take_of_lt hij]; exact k1)) h2
theorem PlaceP.ge {ks : List ByteArray} {key : ByteArray} {n : Int} (h : PlaceP ks key n) : n = -1 ∨ 0 ≤ n := by
  rcases h with ⟨rfl, _⟩ | ⟨i, rfl, _⟩
  · exact .inl rfl
  · exact .inr (by omega)
theorem notin_step {ks : List ByteArray} {key k2 : ByteArray} {i : Nat} (h : key ∉ ks.take i) (hk : ks[i]? = some k2) (hne : ¬ k2 = key) : key ∉ ks.take (i + 1) := by
  rw [take_next hk]
  intro hm
  rcases List.mem_append.1 hm with hm | hm
  · exact h hm
  · simp at hm; exact hne hm.symm
/-- What a search answers. -/
def PlaceR (ks : List ByteArray) (key : ByteArray) (w : World) (e : Ending) (w' : World) : Prop := ∃ n : Int, e = .returned (.int .i64 n) ∧ PlaceP ks key n ∧ Below w.heap.size w w'
theorem pl1_any (k2 key : ByteArray) (u : Hd) (w : World) (K : Nat) (hK : w.cell? ⟨K, 0, none⟩ = some (.string key)) :
    Calls Try.prog 104 #[.agg #[.string k2, .int .i64 u.k, .int .i64 u.n, .string u.s, .slice u.A u.la u.lc, .slice u.F u.lf u.fc], .pointer (some ⟨K, 0, none⟩)] w fun e w' => YesNo (k2 = key) w e w' := by
  have hKl : K < w.heap.size := World.block_lt_of_cell? w _ hK
  by_cases hkk : k2 = key
  · have hkk' := bytes_eq hkk
    have HKK := Lib.hid hkk
    clear hkk
    go_enter Try.func104, Try.ntmps104
    go_wp2_with fail
    go_ret
    exact YesNo.yes HKK.out ((Below.refl _ _).alloc (Nat.le_refl _) _)
  · have hkk' := bytes_ne hkk
    have HKK := Lib.hid hkk
    clear hkk
    go_enter Try.func104, Try.ntmps104
    go_wp2_with fail
    go_ret
    exact YesNo.no HKK.out ((Below.refl _ _).alloc (Nat.le_refl _) _)
set_option maxHeartbeats 400000 in
theorem index_any (ks : List ByteArray) (key : ByteArray) (F : Option Addr) (c K : Nat) (w : World) (hn : ks.length ≤ 1000) (hA : KeyRow w F ks) (hK : w.cell? ⟨K, 0, none⟩ = some (.string key)) :
    Calls Try.prog 103 #[.slice F ks.length c, .func (.func 104) #[] #[.pointer (some ⟨K, 0, none⟩)]] w fun e w' => PlaceR ks key w e w' := by
  have hKl : K < w.heap.size := World.block_lt_of_cell? w _ hK
  go_enter Try.func103, Try.ntmps103
  go_wp2_with fail
  go_loopw [8] (fun iv wr => ∃ i : Nat, iv = .int .i64 i ∧ i ≤ ks.length ∧ key ∉ ks.take i ∧ Below w.heap.size w wr) (fun iv _ => ks.length - (intOf iv).toNat)
  case atStart => exact ⟨0, rfl, Nat.zero_le _, by simp, Below.refl _ _⟩
  case round =>
    obtain ⟨i, rfl, hi, hnk, hbel⟩ := hrel
    have HNK := Lib.hid hnk
    have HB := Lib.hid hbel
    clear hnk hbel
    by_cases hlt : i < ks.length
    · obtain ⟨k2, hk2⟩ : ∃ k2, ks[i]? = some k2 := ⟨ks[i], List.getElem?_eq_getElem hlt⟩
      obtain ⟨ad, u, rfl, hbl, hcell⟩ := hA i k2 hk2
      obtain ⟨q0, q1, q2, q3, q4, q5⟩ := hcell.below HB.out hbl
      have HK2 := Lib.hid hk2
      have HKc := Lib.hid ((HB.out.cell (p := ⟨K, 0, none⟩) hKl).trans hK)
      clear hcell hk2
      go_wp2_with fail
      refine (pl1_any k2 key u wr K HKc.out).mono ?_
      rintro e w1 ⟨r, rfl, hr, hb1⟩
      have HR := Lib.hid hr
      have HB1 := Lib.hid hb1
      clear hr hb1
      cases r
      · have hnk2 := Lib.hid (notin_step HNK.out HK2.out (fun h => by have := HR.out.2 h; cases this))
        go_wp2_with fail
        exact ⟨⟨i + 1, by go_num, by omega, hnk2.out, HB.out.trans (HB1.out.mono HB.out.size)⟩, by simp [intOf]; omega⟩
      · have he := HR.out.1 rfl
        have HE := Lib.hid (show ks[i]? = some key from he ▸ HK2.out)
        clear he
        go_wp2_with fail
        go_ret
        exact ⟨i, rfl, .inr ⟨i, rfl, HE.out, HNK.out⟩, HB.out.trans (HB1.out.mono HB.out.size)⟩
    · have hall : Hid (key ∉ ks) := by have := HNK.out; rw [List.take_of_length_le (by omega)] at this; exact this
      go_wp2_with fail
      go_ret
      exact ⟨-1, rfl, .inl ⟨rfl, hall.out⟩, HB.out⟩
theorem place_any (ks : List ByteArray) (key : ByteArray) (h : Hd) (w : World) (hlf : h.lf = ks.length) (hn : ks.length ≤ 1000) (hA : KeyRow w h.F ks) :
    Calls Try.prog 75 #[h.val, .string key] w fun e w' => PlaceR ks key w e w' := by
  obtain ⟨hk, hnn, hs, A, la, lc, F, lf, fc⟩ := h
  simp only at hlf hA
  subst hlf
  unfold Hd.val
  simp only
  have hb0 : Below w.heap.size w ((w.alloc (Obj.cells #[.int .i64 hk, .int .i64 hnn, .string hs, .slice A la lc, .slice F ks.length fc] 25)).alloc (Obj.cells #[.string key] 9)) := ((Below.refl _ _).alloc (Nat.le_refl _) _).alloc (by simp) _
  have hcal := index_any ks key F fc (w.heap.size + 1) ((w.alloc (Obj.cells #[.int .i64 hk, .int .i64 hnn, .string hs, .slice A la lc, .slice F ks.length fc] 25)).alloc (Obj.cells #[.string key] 9)) hn (hA.below hb0 (Nat.le_refl _)) (by rw [World.cell?_alloc_at _ _ _ _ (by simp)]; rfl)
  have HCAL := Lib.hid hcal
  have HB0 := Lib.hid hb0
  clear hb0 hcal hA
  go_enter Try.func75, Try.ntmps75
  go_wp2_with fail
  refine HCAL.out.mono ?_
  rintro e w1 ⟨n, rfl, hp, hb1⟩
  have HP := Lib.hid hp
  have HB1 := Lib.hid hb1
  clear hp hb1 HCAL
  go_wp2_with fail
  go_ret
  exact ⟨n, rfl, HP.out, HB0.out.trans (HB1.out.mono HB0.out.size)⟩
set_option maxHeartbeats 400000 in
theorem at_ref (ks : List ByteArray) (key : ByteArray) (h : Hd) (w : World) (hlf : h.lf = ks.length) (hn : ks.length ≤ 1000) (hA : KeyRow w h.F ks) :
    Calls Try.prog 30 #[h.val, .string key] w fun e w' => PlaceR ks key w e w' := by
  obtain ⟨hk, hnn, hs, A, la, lc, F, lf, fc⟩ := h
  simp only at hlf hA
  subst hlf
  unfold Hd.val
  simp only
  go_enter Try.func30, Try.ntmps30
  go_wp2_with fail
  go_loopw [5] (fun iv wr => ∃ i : Nat, iv = .int .i64 i ∧ i ≤ ks.length ∧ key ∉ ks.take i ∧ BoxAt w wr ⟨hk, hnn, hs, A, la, lc, F, ks.length, fc⟩) (fun iv _ => ks.length - (intOf iv).toNat)
  case atStart => exact ⟨0, rfl, Nat.zero_le _, by simp, BoxAt.start w ⟨hk, hnn, hs, A, la, lc, F, ks.length, fc⟩ 25⟩
  case round =>
    obtain ⟨i, rfl, hi, hnk, hbx⟩ := hrel
    have HNK := Lib.hid hnk
    have HB := Lib.hid hbx
    have cF := hbx.2.2 4 _ rfl
    clear hnk hbx
    by_cases hlt : i < ks.length
    · obtain ⟨k2, hk2⟩ : ∃ k2, ks[i]? = some k2 := ⟨ks[i], List.getElem?_eq_getElem hlt⟩
      obtain ⟨ad, u, rfl, hbl, hcell⟩ := hA i k2 hk2
      obtain ⟨q0, q1, q2, q3, q4, q5⟩ := hcell.below HB.out.1 hbl
      have HK2 := Lib.hid hk2
      clear hcell hk2 q1 q2 q3 q4 q5
      by_cases hkk : k2 = key
      · have hkk' := bytes_eq hkk
        have HE := Lib.hid (show ks[i]? = some key from hkk ▸ HK2.out)
        clear hkk
        go_wp2_with fail
        go_ret
        exact ⟨i, rfl, .inr ⟨i, rfl, HE.out, HNK.out⟩, HB.out.1⟩
      · have hkk' := bytes_ne hkk
        have hnk2 := Lib.hid (notin_step HNK.out HK2.out hkk)
        clear hkk
        go_wp2_with fail
        exact ⟨⟨i + 1, by go_num, by omega, hnk2.out, HB.out⟩, by simp [intOf]; omega⟩
    · have hall : Hid (key ∉ ks) := by have := HNK.out; rw [List.take_of_length_le (by omega)] at this; exact this
      go_wp2_with fail
      go_ret
      exact ⟨-1, rfl, .inl ⟨rfl, hall.out⟩, HB.out.1⟩
end Go.Proofs.Ytmdlcalnncncjaa
