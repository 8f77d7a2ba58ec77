/- cascade/quote.Unquote, walked. -/
import Derived.Test.YtejniiehfangkaaGreatDoorPEsc
set_option linter.unusedVariables false
set_option linter.unusedSimpArgs false
namespace Go.Proofs.YtejniiehfangkaaGreatDoor
open Go.RowKit
/-- What Unquote tells. -/
def unqE (s : ByteArray) : Ending := .returned (.tuple #[.string ⟨(unq s).1.toArray⟩, .int .i64 (unq s).2.1, .int .i64 (unq s).2.2])
theorem unqE_is (s : ByteArray) (a : List UInt8) (b c : Nat) (h : unq s = (a, b, c)) : unqE s = .returned (.tuple #[.string ⟨a.toArray⟩, .int .i64 b, .int .i64 c]) := by unfold unqE; rw [h]
/-- The loop's relation: v: the place next; the iterator at pos. -/
def URel (B : Nat) (s : ByteArray) (w : World) (v : Value) (wr : World) : Prop :=
  ∃ (pos nx cur g : Nat) (o : List UInt8), v = .int .i64 (nx : Nat) ∧ pos ≤ cur ∧ cur ≤ s.size ∧ nx ≤ cur ∧ (pos < cur → nx = cur) ∧ (∀ j, pos ≤ j → j < cur → (s.get! j).toNat < 128) ∧
    BI B (B + 1) o s pos w wr ∧ o.length ≤ 4 * cur ∧ unqF s g cur o = unq s ∧ s.size < cur + g
theorem u_skip {B : Nat} {s : ByteArray} {w wr w' : World} {pos nx cur g : Nat} {o : List UInt8} {v : Value} (hv : v = .int .i64 (nx : Nat)) (hpc : pos < cur) (hcs : cur ≤ s.size) (hnx : nx = cur) (hasc : ∀ j, pos ≤ j → j < cur → (s.get! j).toNat < 128)
    (hit : wr.heap[B + 1]? = some (.stringIter s pos)) (hI : BI B (B + 1) o s (pos + (Utf8.decode s pos).2) w w') (hl : o.length ≤ 4 * cur) (hu : unqF s g cur o = unq s) (hg : s.size < cur + g) :
    URel B s w v w' ∧ s.size - w'.iterPos (B + 1) < s.size - wr.iterPos (B + 1) := by
  have hd := size_one s pos (by omega) (hasc pos (Nat.le_refl _) hpc)
  have hw : (Utf8.decode s pos).2 = 1 := by rw [hd.1]
  rw [hw] at hI
  refine ⟨⟨pos + 1, nx, cur, g, o, hv, by omega, hcs, by omega, fun _ => hnx, fun j h1 h2 => hasc j (by omega) h2, hI, hl, hu, hg⟩, ?_⟩
  rw [iterPos_of hI.2.1, iterPos_of hit]; omega
theorem u_esc {B : Nat} {s : ByteArray} {w wr w' : World} {pos g : Nat} {o : List UInt8} {v : Value} (hp : pos < s.size) (h92 : (s.get! pos).toNat = 92) (he : (escR s pos).2 ≠ 0) (hv : v = .int .i64 ((pos + (escR s pos).2 : Nat) : Int))
    (hit : wr.heap[B + 1]? = some (.stringIter s pos)) (hI : BI B (B + 1) (o ++ encL (escR s pos).1) s (pos + (Utf8.decode s pos).2) w w') (hl : o.length ≤ 4 * pos) (hu : unqF s g pos o = unq s) (hg : s.size < pos + g) :
    URel B s w v w' ∧ s.size - w'.iterPos (B + 1) < s.size - wr.iterPos (B + 1) := by
  have hd := size_one s pos hp (by omega)
  have hw : (Utf8.decode s pos).2 = 1 := by rw [hd.1]
  rw [hw] at hI
  obtain ⟨g', h1, h2⟩ := unqF_esc s g pos o hp hg h92 he
  have hk := (escR_ok s pos).resolve_left he
  obtain ⟨k1, k2, k3, k4, k5⟩ := hk
  have hel := (encL_len (escR s pos).1).2
  refine ⟨⟨pos + 1, pos + (escR s pos).2, pos + (escR s pos).2, g', _, hv, by omega, k3, Nat.le_refl _, fun _ => rfl, fun j h1 h2 => ?_, hI, ?_, by rw [← h1]; exact hu, h2⟩, ?_⟩
  · have := k4 (j - pos) (by omega) (by omega); rwa [show pos + (j - pos) = j by omega] at this
  · rw [List.length_append]; omega
  · rw [iterPos_of hI.2.1, iterPos_of hit]; omega
theorem u_rune {B : Nat} {s : ByteArray} {w wr w' : World} {pos nx g : Nat} {o : List UInt8} {v : Value} (hv : v = .int .i64 (nx : Nat)) (hnx : nx ≤ pos) (hp : pos < s.size) (hb : badAt s pos = false) (n1 : (s.get! pos).toNat ≠ 34) (n2 : ¬ (s.get! pos).toNat < 32) (n3 : (s.get! pos).toNat ≠ 92)
    (hit : wr.heap[B + 1]? = some (.stringIter s pos)) (hI : BI B (B + 1) (o ++ encL (Utf8.decode s pos).1) s (pos + (Utf8.decode s pos).2) w w') (hl : o.length ≤ 4 * pos) (hu : unqF s g pos o = unq s) (hg : s.size < pos + g) :
    URel B s w v w' ∧ s.size - w'.iterPos (B + 1) < s.size - wr.iterPos (B + 1) := by
  have hd := dec_in s pos hp
  obtain ⟨g', h1, h2⟩ := unqF_rune s g pos o hp hg hb n1 n2 n3
  have hel := (encL_len (Utf8.decode s pos).1).2
  refine ⟨⟨_, nx, pos + (Utf8.decode s pos).2, g', _, hv, Nat.le_refl _, hd.2.1, by omega, fun h => by omega, fun j h1 h2 => by omega, hI, ?_, by rw [← h1]; exact hu, h2⟩, ?_⟩
  · rw [List.length_append]; omega
  · rw [iterPos_of hI.2.1, iterPos_of hit]; omega
/-- The byte of a rune below 80. -/
theorem byte_of (s : ByteArray) (pos : Nat) (hp : pos < s.size) (z : Int) (hz : z = ((Utf8.decode s pos).1 : Int)) : (z < 128 → ((s.get! pos).toNat : Int) = z) ∧ ((s.get! pos).toNat < 128 → ((s.get! pos).toNat : Int) = z) := by
  refine ⟨fun h => ?_, fun h => ?_⟩
  · have := (dec_small s pos hp (by omega)).1; omega
  · have := (size_one s pos hp h).1; rw [this] at hz; simp only at hz; omega
theorem pre1 (s : ByteArray) : Lib.hasPrefix s.data.toList [34] = decide (0 < s.size ∧ (s.get! 0).toNat = 34) := by
  unfold Lib.hasPrefix
  by_cases h : 0 < s.size
  · have := drop_cons s 0 h
    rw [List.drop_zero] at this
    rw [this, Bool.eq_iff_iff]
    simp only [List.isPrefixOf, Bool.and_true, beq_iff_eq, decide_eq_true_eq]
    constructor
    · intro e; exact ⟨h, by rw [← e]; rfl⟩
    · rintro ⟨_, e⟩; exact (UInt8.toNat_inj.1 e).symm
  · have e : s.data.toList = [] := List.eq_nil_of_length_eq_zero (by rw [← Lib.size_eq]; omega)
    rw [e, decide_eq_false (fun x => h x.1)]; rfl
set_option maxHeartbeats 1000000 in
theorem unq_none (s : ByteArray) (hs : s.size ≤ 1048576) (h : ¬ (0 < s.size ∧ (s.get! 0).toNat = 34)) (w : World) : Calls Tryz.prog 40 #[.string s] w fun e w' => e = unqE s ∧ Below w.heap.size w w' := by
  have HU := Lib.hid (unqE_is s [] 0 4 (by unfold unq; rw [if_neg h]))
  have HP : Hid (Lib.hasPrefix s.data.toList [34] = false) := by
    have := pre1 s; rw [decide_eq_false h] at this; exact this
  clear h
  go_enter Tryz.func40, Tryz.ntmps40
  go_wp2_with fail
  refine (prefix_any _ _ _).mono ?_
  rw [HP.out]
  rintro e w1 ⟨rfl, rfl⟩
  go_wp2_with fail
  go_ret3
  exact ⟨HU.out.symm, Below.refl _ _⟩
set_option maxHeartbeats 2000000 in
set_option maxRecDepth 100000 in
theorem unq_some (s : ByteArray) (hs : s.size ≤ 1048576) (h0 : 0 < s.size) (h34 : (s.get! 0).toNat = 34) (w : World) (hE : ErrV w) : Calls Tryz.prog 40 #[.string s] w fun e w' => e = unqE s ∧ Below w.heap.size w w' := by
  have HUN : Hid (unqF s (s.size + 1) 1 [] = unq s) := by unfold unq; rw [if_pos ⟨h0, h34⟩]; exact Lib.hid rfl
  have HP : Hid (Lib.hasPrefix s.data.toList [34] = true) := by
    have := pre1 s; rw [decide_eq_true ⟨h0, h34⟩] at this; exact this
  have HEV := Lib.hid hE
  have H34 := Lib.hid h34
  obtain ⟨B, hB⟩ : ∃ B, B = w.heap.size := ⟨_, rfl⟩
  have HB := Lib.hid hB
  clear hE h34
  go_enter Tryz.func40, Tryz.ntmps40
  go_wp2_with fail
  refine (prefix_any _ _ _).mono ?_
  rw [HP.out]
  rintro e w1 ⟨rfl, rfl⟩
  clear hB
  go_wp2_with fail
  go_loopw [6] (fun v wr => URel w.heap.size s w v wr) (fun _ wr => s.size - wr.iterPos (w.heap.size + 1))
  case atStart =>
    refine ⟨0, 1, 1, s.size + 1, [], rfl, by omega, by omega, Nat.le_refl _, fun _ => rfl, fun j h1 h2 => ?_, ⟨?_, ?_, ?_, Nat.le_refl _, by omega, by omega⟩, by simp, HUN.out, by omega⟩
    · obtain rfl : j = 0 := by omega
      rw [H34.out]; omega
    · exact builder_below (Lib.fresh_isBuilder 52 5 w) ((Below.refl _ _).alloc (Nat.le_refl _) _)
    · have := World.iter_heap (w.alloc (.cells #[.pointer none, .slice none 0 0] 52)) s 0
      simpa using this
    · exact ((Below.refl _ _).alloc (Nat.le_refl _) _).alloc (by simp) _
  case round =>
    obtain ⟨pos, nx, cur, g, o, rfl, h1, h2, h3, h4, h5, hI, hl, hu, hg⟩ := hrel
    have HU := Lib.hid hu
    have HA := Lib.hid h5
    have HIT := Lib.hid hI.2.1
    have HC4 := Lib.hid h4
    clear hu h5 h4
    by_cases hp : pos < s.size
    · have hnx : ∀ ty, (Instr.next (.pointer (some ⟨w.heap.size + 1, 0, none⟩)) true ty).run Tryz.prog wr = _ := fun ty => Lib.run_next_any_at wr (w.heap.size + 1) s pos ty hI.2.1 hp
      have hI1 := hI.move (pos + (Utf8.decode s pos).2)
      obtain ⟨W, hW⟩ : ∃ W, W = wr.iterAt (w.heap.size + 1) s (pos + (Utf8.decode s pos).2) := ⟨_, rfl⟩
      obtain ⟨z, hz⟩ : ∃ z : Int, z = ((Utf8.decode s pos).1 : Int) := ⟨_, rfl⟩
      rw [← hW] at hnx hI1
      rw [← hz] at hnx
      have HZ := Lib.hid hz
      have HBY := Lib.hid (byte_of s pos hp z hz)
      have hz0 : 0 ≤ z := by omega
      have HEW := Lib.hid (HEV.out.go hI1.2.2.1)
      clear hz hW hI
      by_cases hpc : pos < cur
      · have hnc : nx = cur := HC4.out hpc
        have hlt : (pos : Int) < (nx : Int) := by omega
        have HNC := Lib.hid hnc
        clear hnc
        go_wp2_with fail
        exact u_skip rfl hpc h2 HNC.out HA.out HIT.out hI1 hl HU.out hg
      · obtain rfl : cur = pos := by omega
        have hlt : ¬ (cur : Int) < (nx : Int) := by omega
        clear hpc h1
        by_cases c34 : z = 34
        · have hb := HBY.out.1 (by omega)
          have HX : Hid (unqE s = .returned (.tuple #[.string ⟨o.toArray⟩, .int .i64 ((cur : Int) + 1), .int .i64 0])) := by
            have := unqE_is s o (cur + 1) 0 (by rw [← HU.out]; exact unqF_close s g cur o hp hg (by omega))
            rw [Int.natCast_add] at this
            exact this
          clear hb
          subst c34
          go_wp2_with fail
          refine (Tryz.Builder_String_any _ _ _ _ hI1.1 hI1.room).mono ?_
          rintro e w2 ⟨rfl, hb2⟩
          go_wp2_with fail
          go_ret3
          exact ⟨HX.out.symm, hI1.2.2.1.trans hb2⟩
        have d34 : (z == 34) = false := by simp [c34]
        by_cases c32 : z < 32
        · have hb := HBY.out.1 (by omega)
          have HX := Lib.hid (unqE_is s [] cur 4 (by rw [← HU.out]; exact unqF_low s g cur o hp hg (by omega)))
          clear hb
          go_wp2_with fail
          go_ret3
          exact ⟨HX.out.symm, hI1.2.2.1⟩
        by_cases c92 : z = 92
        · have hb := HBY.out.1 (by omega)
          have H92 : Hid ((s.get! cur).toNat = 92) := by have : (s.get! cur).toNat = 92 := by omega
                                                         exact this
          have hk := escaped_any (s.extract cur s.size) (by rw [ByteArray.size_extract]; omega) W HEW.out
          unfold escE at hk
          rw [esc_ext s cur hp] at hk
          have HK := Lib.hid hk
          have hok := escR_ok s cur
          clear hb hk
          subst c92
          by_cases he : (escR s cur).2 = 0
          · have HX := Lib.hid (unqE_is s [] cur 4 (by rw [← HU.out]; exact unqF_noesc s g cur o hp hg H92.out he))
            clear hok
            generalize (escR s cur).1 = R at *
            generalize (escR s cur).2 = S at *
            subst he
            go_wp2_with fail
            refine HK.out.mono ?_
            rintro e w2 ⟨rfl, hb2⟩
            go_wp2_with fail
            go_ret3
            exact ⟨HX.out.symm, hI1.2.2.1.trans (hb2.mono hI1.room)⟩
          · have hR := (hok.resolve_left he).2.2.2.2
            have hS := (hok.resolve_left he).2.2.1
            have HEX : Hid (∀ {w' : World} {v : Value}, v = .int .i64 ((cur + (escR s cur).2 : Nat) : Int) → BI w.heap.size (w.heap.size + 1) (o ++ encL (escR s cur).1) s (cur + (Utf8.decode s cur).2) w w' → URel w.heap.size s w v w' ∧ s.size - w'.iterPos (w.heap.size + 1) < s.size - wr.iterPos (w.heap.size + 1)) :=
              fun hv hI => u_esc hp H92.out he hv HIT.out hI hl HU.out hg
            clear hok
            generalize (escR s cur).1 = R at *
            generalize (escR s cur).2 = S at *
            have HR := Lib.hid hR
            have hSz : ((S : Int) == 0) = false := by simp; omega
            clear hR he
            go_wp2_with fail
            refine HK.out.mono ?_
            rintro e w2 ⟨rfl, hb2⟩
            have hI2 := hI1.call hb2
            go_wp2_with fail
            refine (write_rune _ _ _ R HR.out _ hI2.1 (by omega) hI2.room).mono ?_
            rintro e w3 ⟨⟨q, rfl⟩, h3', f3⟩
            have hI3 := hI2.put h3' f3
            go_wp2_with fail
            exact HEX.out (val_int (by rw [Int.natCast_add])) hI3
        have d92 : (z == 92) = false := by simp [c92]
        have hn1 : ¬ (z < 32) := c32
        have HN : Hid ((s.get! cur).toNat ≠ 34 ∧ ¬ (s.get! cur).toNat < 32 ∧ (s.get! cur).toNat ≠ 92) := by
          have hb := HBY.out.2
          refine ⟨fun h => ?_, fun h => ?_, fun h => ?_⟩
          · have := hb (by omega); omega
          · have := hb (by omega); omega
          · have := hb (by omega); omega
        by_cases cF : z = 65533
        · have hr : (Utf8.decode s cur).1 = 65533 := by have := HZ.out; omega
          have hk := noRune_any s hs cur hp hr W
          cases hba : badAt s cur
          · rw [hba] at hk
            have HK := Lib.hid hk
            have HBA := Lib.hid hba
            have HRD := Lib.hid hr
            subst cF
            clear hk hba hr c34 d34 d92 hn1 c92 c32
            go_wp2_with fail
            refine HK.out.mono ?_
            rintro e w2 ⟨rfl, hb2⟩
            have hI2 := hI1.call hb2
            go_wp2_with fail
            refine (write_rune_z _ _ _ 65533 (by decide +kernel) _ hI2.1 (by omega) hI2.room).mono ?_
            rintro e w3 ⟨⟨q, rfl⟩, h3', f3⟩
            have hI3 := hI2.put h3' f3
            go_wp2_with fail
            exact u_rune rfl h3 hp HBA.out HN.out.1 HN.out.2.1 HN.out.2.2 HIT.out (by rw [HRD.out]; exact hI3) hl HU.out hg
          · rw [hba] at hk
            have HK := Lib.hid hk
            have HX := Lib.hid (unqE_is s [] cur 2 (by rw [← HU.out]; exact unqF_bad s g cur o hp hg hba))
            subst cF
            clear hk hba hr c34 d34 d92 hn1 c92 c32
            go_wp2_with fail
            refine HK.out.mono ?_
            rintro e w2 ⟨rfl, hb2⟩
            go_wp2_with fail
            go_ret3
            exact ⟨HX.out.symm, hI1.2.2.1.trans (hb2.mono hI1.room)⟩
        · have dF : (z == 65533) = false := by simp [cF]
          have hba : badAt s cur = false := badAt_not s cur (fun h => cF (by have := HZ.out; omega))
          have HR : Hid (isR z = true) := by rw [HZ.out]; exact (enc_dec s cur hp hba).1
          have HBA := Lib.hid hba
          clear hba cF c34 c92
          go_wp2_with fail
          refine (write_rune_z _ _ _ z HR.out _ hI1.1 (by omega) hI1.room).mono ?_
          rintro e w3 ⟨⟨q, rfl⟩, h3', f3⟩
          have hI3 := hI1.put h3' f3
          rw [show z.toNat = (Utf8.decode s cur).1 by have := HZ.out; omega] at hI3
          go_wp2_with fail
          exact u_rune rfl h3 hp HBA.out HN.out.1 HN.out.2.1 HN.out.2.2 HIT.out hI3 hl HU.out hg
    · have hnx : ∀ ty, (Instr.next (.pointer (some ⟨w.heap.size + 1, 0, none⟩)) true ty).run Tryz.prog wr = _ := fun ty => Lib.run_next_end_at wr (w.heap.size + 1) s pos ty hI.2.1 hp
      have HX := Lib.hid (unqE_is s [] s.size 4 (by rw [← HU.out, unqF_end s g cur o (by omega)]))
      go_wp2_with fail
      go_ret3
      exact ⟨HX.out.symm, hI.2.2.1⟩
end Go.Proofs.YtejniiehfangkaaGreatDoor
