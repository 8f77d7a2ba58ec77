/- The document's own Unquote, walked. -/
import Derived.Test.YtmkenjelcmpghaaDoorURef
set_option linter.unusedVariables false
set_option linter.unusedSimpArgs false
namespace Go.Proofs.YtmkenjelcmpghaaDoor
open Go.RowKit
theorem ext_rune (s : ByteArray) (i : Nat) (h : i < s.size) (hb : badAt s i = false) : s.extract i (i + (Utf8.decode s i).2) = ⟨(encL (Utf8.decode s i).1).toArray⟩ := by
  obtain ⟨_, he⟩ := enc_dec s i h hb
  have hlen : (encL (Utf8.decode s i).1).length = (Utf8.decode s i).2 := by
    have e := congrArg List.length he
    rw [List.length_append, List.length_drop, List.length_drop, ← Lib.size_eq] at e
    have := (dec_in s i h).2.1
    omega
  rw [Lib.extract_eq, show i + (Utf8.decode s i).2 - i = (Utf8.decode s i).2 by omega, he, ← hlen, List.take_left]
set_option maxHeartbeats 1000000 in
theorem unqR_none (s : ByteArray) (hs : s.size ≤ 1048576) (h : ¬ (0 < s.size ∧ (s.get! 0).toNat = 34)) (w : World) : Calls Tryd.prog 13 #[.string s] w fun e w' => e = unqE s ∧ Below w.heap.size w w' := by
  have HU := Lib.hid (unqE_is s [] 0 4 (by unfold unq; rw [if_neg h]))
  by_cases h0 : s.size = 0
  · have d0 : ((s.size : Int) == 0) = true := by simp [h0]
    clear h h0
    go_enter Tryd.func13, Tryd.ntmps13
    go_wp2_with fail
    go_ret3
    exact ⟨HU.out.symm, Below.refl _ _⟩
  · have d0 : ((s.size : Int) == 0) = false := beq_eq_false_iff_ne.2 (by omega)
    have h1 : 0 < s.size := by omega
    have hn : s[0].toNat ≠ 34 := fun e => h ⟨h1, by rw [get_bang s 0 h1]; exact e⟩
    have d34 : ((s[0].toNat : Int) == 34) = false := by simp; omega
    have f34 : ((s[0].toNat : Int) != 34) = true := by simp; omega
    clear h h0 hn
    go_enter Tryd.func13, Tryd.ntmps13
    go_wp2_with fail
    go_ret3
    exact ⟨HU.out.symm, Below.refl _ _⟩
set_option maxHeartbeats 2000000 in
set_option maxRecDepth 100000 in
theorem unqR_some (s : ByteArray) (hs : s.size ≤ 1048576) (h0 : 0 < s.size) (h34 : (s.get! 0).toNat = 34) (w : World) : Calls Tryd.prog 13 #[.string s] w fun e w' => e = unqE s ∧ Below w.heap.size w w' := by
  have HUN : Hid (unqF s (s.size + 1) 1 [] = unq s) := by unfold unq; rw [if_pos ⟨h0, h34⟩]; exact Lib.hid rfl
  have hg : s[0].toNat = 34 := by rw [get_bang s 0 h0] at h34; exact h34
  have d0 : ((s.size : Int) == 0) = false := beq_eq_false_iff_ne.2 (by omega)
  clear h34
  go_enter Tryd.func13, Tryd.ntmps13
  go_wp2_with fail
  clear hg d0
  go_loopw [5, 6] (fun v j wr => ∃ (k g : Nat) (o : List UInt8), k ≤ s.size ∧ j = .int .i64 k ∧ v = .string ⟨o.toArray⟩ ∧ o.length ≤ 4 * k ∧ unqF s g k o = unq s ∧ s.size < k + g ∧ Below w.heap.size w wr) (fun _ j _ => s.size - (intOf j).toNat)
  case atStart => exact ⟨1, s.size + 1, [], by omega, rfl, rfl, by simp, HUN.out, by omega, Below.refl _ _⟩
  case round =>
    obtain ⟨k, g, o, hk, rfl, rfl, hl, hu, hg, hb⟩ := hrel
    have HU := Lib.hid hu
    clear hu
    by_cases hp : k < s.size
    · have hgb : (s.get! k).toNat = s[k].toNat := by rw [get_bang s k hp]
      have HG := Lib.hid hgb
      clear hgb
      by_cases c34 : s[k].toNat = 34
      · have HX : Hid (unqE s = .returned (.tuple #[.string ⟨o.toArray⟩, .int .i64 ((k : Int) + 1), .int .i64 0])) := by
          have := unqE_is s o (k + 1) 0 (by rw [← HU.out]; exact unqF_close s g k o hp hg (by rw [HG.out]; exact c34))
          rw [Int.natCast_add] at this
          exact this
        go_wp2_with fail
        go_ret3
        exact ⟨HX.out.symm, hb⟩
      have d34 : ((s[k].toNat : Int) == 34) = false := by simp; omega
      by_cases c32 : s[k].toNat < 32
      · have HX := Lib.hid (unqE_is s [] k 4 (by rw [← HU.out]; exact unqF_low s g k o hp hg (by rw [HG.out]; exact c32)))
        clear c34
        go_wp2_with fail
        go_ret3
        exact ⟨HX.out.symm, hb⟩
      by_cases c92 : s[k].toNat = 92
      · have H92 : Hid ((s.get! k).toNat = 92) := by rw [HG.out]; exact c92
        have hsg := fun W => sign_any s hs k hp H92.out W
        unfold sgnE at hsg
        clear c34 c32
        by_cases he : (escR s k).2 = 0
        · have HX := Lib.hid (unqE_is s [] k 4 (by rw [← HU.out]; exact unqF_noesc s g k o hp hg H92.out he))
          generalize (escR s k).1 = R at *
          generalize (escR s k).2 = S at *
          subst he
          have HSG := Lib.hid hsg
          clear hsg
          go_wp2_with fail
          refine (HSG.out _).mono ?_
          rintro e w' ⟨rfl, rfl⟩
          go_wp2_with fail
          go_ret3
          exact ⟨HX.out.symm, hb⟩
        · obtain ⟨g', e1, e2⟩ := unqF_esc s g k o hp hg H92.out he
          obtain ⟨k1, k2, k3, k4, k5⟩ := (escR_ok s k).resolve_left he
          have hrn := fun W => rune_yes ((escR s k).1 : Int) k5 W
          simp only [Int.toNat_natCast] at hrn
          have hel := encL_len (escR s k).1
          have E1 := Lib.hid e1
          clear k4 k5 e1
          generalize encL (escR s k).1 = E at *
          generalize (escR s k).1 = R at *
          generalize (escR s k).2 = S at *
          have HSG := Lib.hid hsg
          have HRN := Lib.hid hrn
          have hSz : ((S : Int) == 0) = false := beq_eq_false_iff_ne.2 (by omega)
          obtain ⟨hel1, hel4⟩ := hel
          clear hsg hrn he
          go_wp2_with fail
          refine (HSG.out _).mono ?_
          rintro e w' ⟨rfl, rfl⟩
          go_wp2_with fail
          refine (HRN.out _).mono ?_
          rintro e w2 ⟨rfl, hb2⟩
          go_wp2_with fail
          exact ⟨⟨k + S, g', o ++ E, k3, by go_num, congrArg Value.string (mk_app o E), by rw [List.length_append]; omega, by rw [← E1.out]; exact HU.out, e2, hb.trans (hb2.mono hb.size)⟩, by simp [intOf]; omega⟩
      have d92 : ((s[k].toNat : Int) == 92) = false := by simp; omega
      cases hba : badAt s k
      · have hd := dec_in s k hp
        obtain ⟨g', e1, e2⟩ := unqF_rune s g k o hp hg hba (by rw [HG.out]; exact c34) (by rw [HG.out]; exact c32) (by rw [HG.out]; exact c92)
        have hsz := fun W => size_is_ok s (by omega) k hp hba W
        have hex := ext_rune s k hp hba
        have hel := encL_len (Utf8.decode s k).1
        have E1 := Lib.hid e1
        have hd1 := hd.1
        have hd2 := hd.2.1
        clear e1 hd hba c34 c92
        generalize encL (Utf8.decode s k).1 = E at *
        generalize (Utf8.decode s k).1 = R at *
        generalize (Utf8.decode s k).2 = S at *
        have HSZ := Lib.hid hsz
        have HEX := Lib.hid hex
        have hSz : ((S : Int) == 0) = false := beq_eq_false_iff_ne.2 (by omega)
        obtain ⟨hel1, hel4⟩ := hel
        clear hsz hex
        go_wp2_with fail
        refine (HSZ.out _).mono ?_
        rintro e w' ⟨rfl, rfl⟩
        go_wp2_with fail
        exact ⟨⟨k + S, g', o ++ E, hd2, by go_num, congrArg Value.string (by rw [HEX.out]; exact mk_app o E), by rw [List.length_append]; omega, by rw [← E1.out]; exact HU.out, e2, hb⟩, by simp [intOf]; omega⟩
      · have HX := Lib.hid (unqE_is s [] k 2 (by rw [← HU.out]; exact unqF_bad s g k o hp hg hba))
        have HSZ := Lib.hid (fun W => size_is_bad s (by omega) k hp hba W)
        clear hba c34 c92
        go_wp2_with fail
        refine (HSZ.out _).mono ?_
        rintro e w' ⟨rfl, rfl⟩
        go_wp2_with fail
        go_ret3
        exact ⟨HX.out.symm, hb⟩
    · have HX := Lib.hid (unqE_is s [] s.size 4 (by rw [← HU.out, unqF_end s g k o hp]))
      go_wp2_with fail
      go_ret3
      exact ⟨HX.out.symm, hb⟩
end Go.Proofs.YtmkenjelcmpghaaDoor
