/- tree.rightKeys: keys that are texts, and unlike. -/
import Derived.Test.YtbinmhcjadkmgaaDoorTPlaces
import Derived.Deep.OwnRows
set_option linter.unusedVariables false
set_option linter.unusedSimpArgs false
namespace Go.Proofs.YtbinmhcjadkmgaaDoor
open Go.RowKit Go.Maps
def KeyRow (w : World) (F : Option Addr) (ks : List ByteArray) : Prop := ∀ (i : Nat) key, ks[i]? = some key → ∃ ad u, F = some ad ∧ (ad.add (i * 6)).block < w.heap.size ∧ At6 w (ad.add (i * 6)) key u
theorem KeyRow.below {w w' : World} {F : Option Addr} {ks : List ByteArray} {B : Nat} (h : KeyRow w F ks) (hb : Below B w w') (hB : w.heap.size ≤ B) : KeyRow w' F ks := by
  intro i key hk
  obtain ⟨ad, u, e, h1, h2⟩ := h i key hk
  exact ⟨ad, u, e, by have := hb.size; omega, h2.below hb (by omega)⟩
theorem Op5.keys {w : World} {S : Nat → Prop} {l : List Va} {ks : List ByteArray} {f : List Va} {h : Hd} (H : Op5 w S l ks f h) (hl : ks.length = f.length) : KeyRow w h.F ks := by
  intro i key hk
  have hlt : i < f.length := by have := (List.getElem?_eq_some_iff.1 hk).1; omega
  obtain ⟨ad, u, key', e, _, hb, hk', _, _, hc⟩ := H.K i _ (List.getElem?_eq_getElem hlt)
  rw [hk] at hk'
  cases hk'
  exact ⟨ad, u, e, hb, hc⟩
theorem rowIs_below {B N : Nat} {w w' : World} {t : TypeId} {n : Nat} {f : Nat → Value} (h : w.rowIs N t n f) (hb : Below B w w') (hN : N < B) : w'.rowIs N t n f := by
  obtain ⟨c, h1, h2, h3⟩ := h
  exact ⟨c, by rw [hb.block N hN]; exact h1, h2, h3⟩
/-- What has been copied so far. -/
def upTo (ks : List ByteArray) (i j : Nat) : Value := if j < i then .string (ks.getD j ByteArray.empty) else .string ByteArray.empty
theorem info9 : (Tryd.prog.info? 9).map (fun i => (i.zero, i.size, i.bytes)) = some (some (.string ByteArray.empty), 1, 16) := by kernel_rfl
set_option maxHeartbeats 400000 in
set_option maxRecDepth 100000 in
theorem keys_any (ks : List ByteArray) (F : Option Addr) (c : Nat) (w : World) (hn : ks.length ≤ 1000) (hsz : ∀ x ∈ ks, x.size ≤ maxLen) (hA : KeyRow w F ks) :
    Calls Tryd.prog 36 #[.slice F ks.length c] w fun e w' => YesNo (KeysP ks) w e w' := by
  have hmk := run_make_row' (P := Tryd.prog) 76 9 (.string ByteArray.empty) 16 Tryd.underlying76 info9 rfl .i64 .i64 ks.length (by omega) (by omega)
  go_enter Tryd.func36, Tryd.ntmps36
  go_wp2_with fail
  go_loopw [13] (fun iv wr => ∃ (i : Nat), iv = .int .i64 i ∧ i ≤ ks.length ∧ (∀ x ∈ ks.take i, rightB x = true) ∧ wr.rowIs w.heap.size 9 ks.length (upTo ks i) ∧ Below w.heap.size w wr) (fun iv _ => ks.length - (intOf iv).toNat)
  case atStart => exact ⟨0, rfl, Nat.zero_le _, by simp, (World.rowIs_made _ _ _ _).congr (fun i hi => by simp [upTo]), (Below.refl _ _).alloc (Nat.le_refl _) _⟩
  case round =>
    obtain ⟨i, rfl, hi, hrk, hrow, hbel⟩ := hrel
    have HRK := Lib.hid hrk
    have HW := Lib.hid hrow
    have HB := Lib.hid hbel
    have hNl := hrow.lt
    clear hrk hrow hbel
    by_cases hlt : i < ks.length
    · obtain ⟨key, hkey⟩ : ∃ key, ks[i]? = some key := ⟨ks[i], List.getElem?_eq_getElem hlt⟩
      obtain ⟨ad, u, rfl, hbl, hcell⟩ := hA i key hkey
      obtain ⟨k0, k1, k2, k3, k4, k5⟩ := hcell.below HB.out hbl
      have HK := Lib.hid hkey
      have hks := hsz key (List.mem_of_getElem? hkey)
      clear hcell hkey
      go_wp2_with fail
      refine (right_any key hks _).mono ?_
      rintro e w1 ⟨rfl, hb1⟩
      obtain ⟨hb2, hsz1, hc1⟩ := after_alloc hb1
      have kk := hc1 0 _ rfl
      have hrow1 := rowIs_below HW.out hb2 hNl
      have HB2 := Lib.hid hb2
      clear hb1 hc1 hb2 k0 k1 k2 k3 k4 k5
      cases hrr : rightB key
      · go_wp2_with fail
        go_ret
        exact YesNo.no (fun h => by have := h.1 key (List.mem_of_getElem? HK.out); rw [hrr] at this; cases this) (HB.out.trans (HB2.out.mono HB.out.size))
      · have HRR := Lib.hid hrr
        have hcc := hrow1.cell hlt
        have hfz := hrow1.frozen i
        have HR1 := Lib.hid hrow1
        clear hrr hrow1
        go_wp2_with fail
        refine ⟨⟨i + 1, by go_num, by omega, ?_, (HR1.out.set i _).congr (fun j hj => ?_), (HB.out.trans (HB2.out.mono HB.out.size)).setCell (Nat.le_refl _) _⟩, by simp [intOf]; omega⟩
        · intro x hx
          rw [take_next HK.out] at hx
          rcases List.mem_append.1 hx with hx | hx
          · exact HRK.out x hx
          · simp at hx; subst hx; exact HRR.out
        · unfold upTo
          by_cases e : j = i
          · subst e
            simp [List.getD, HK.out]
          · simp only [e, if_false]
            by_cases e2 : j < i
            · rw [if_pos e2, if_pos (by omega)]
            · rw [if_neg e2, if_neg (by omega)]
    · have hrd : Rd wr (some ⟨w.heap.size, 0, none⟩) ks.length (ks.map Value.string) := by
        refine ⟨by simp, fun _ => ⟨_, rfl, hNl, fun j v hj => ?_⟩⟩
        have hjl : j < ks.length := by have := (List.getElem?_eq_some_iff.1 hj).1; simpa using this
        have hc := HW.out.cell hjl
        have e : ((⟨w.heap.size, 0, none⟩ : Addr).add j) = ⟨w.heap.size, j, none⟩ := by
          unfold Addr.add
          by_cases h0 : j = 0 <;> simp [h0]
        rw [e, hc]
        unfold upTo
        rw [if_pos (by omega)]
        rw [List.getElem?_map, List.getElem?_eq_getElem hjl] at hj
        simp at hj
        rw [← hj]
        simp [List.getD, List.getElem?_eq_getElem hjl]
      have HRD := Lib.hid hrd
      have hall : Hid (∀ x ∈ ks, rightB x = true) := by have := HRK.out; rw [List.take_of_length_le (by omega)] at this; exact this
      clear hrd
      go_wp2_with fail
      refine (places_any ks _ _ _ (by omega) hsz HRD.out).mono ?_
      rintro e w1 ⟨hb1, h | h⟩
      · obtain ⟨hnd, b, m, D, rfl, -, -, -⟩ := h
        have HND := Lib.hid hnd
        clear hnd
        go_wp2_with fail
        go_ret
        exact YesNo.yes ⟨hall.out, HND.out⟩ (HB.out.trans (hb1.mono HB.out.size))
      · obtain ⟨hnd, rfl⟩ := h
        have HND := Lib.hid hnd
        clear hnd
        go_wp2_with fail
        go_ret
        exact YesNo.no (fun h => HND.out h.2) (HB.out.trans (hb1.mono HB.out.size))
end Go.Proofs.YtbinmhcjadkmgaaDoor
