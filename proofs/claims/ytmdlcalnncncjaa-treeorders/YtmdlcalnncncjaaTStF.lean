/- symMerge of pairs. -/
import Derived.Test.YtmdlcalnncncjaaTStD
import Derived.Test.YtmdlcalnncncjaaTStE
set_option linter.unusedVariables false
set_option linter.unusedSimpArgs false
namespace Go.Proofs.Ytmdlcalnncncjaa
open Go.RowKit
theorem merge_any (dd : Nat) : ∀ (w0 : World) (B N c a m bb Rv : Nat) (rk : ByteArray → Int) (d : Array Eo) (w : World) (H : Sw w0 B d w) (hC : CmpOk w0 B Rv rk) (hP : Pre rk N d a m bb) (hd : bb - a ≤ dd), Calls Try.prog 123 #[.slice (some ⟨B, 0, none⟩) N c, .int .i64 a, .int .i64 m, .int .i64 bb, cmpV Rv] w fun e w' => e = .returned (.tuple #[]) ∧ ∃ d', Sw w0 B d' w' ∧ St.Mrg (rkE rk) Eo.ix d d' a bb := by
  induction dd with
  | zero =>
    intro w0 B N c a m bb Rv rk d w H hC hP hd
    have h1 := hP.am
    have h2 := hP.mb
    omega
  | succ dd ih =>
    intro w0 B N c a m bb Rv rk d w H hC hP hd
    by_cases ha : m = a + 1
    · exact merge_one w0 B N c a m bb Rv rk d w H hC hP ha
    by_cases hb : bb = m + 1
    · exact merge_two w0 B N c a m bb Rv rk d w H hC hP (by have := hP.am; omega) hb
    by_cases hgt : (a + bb) / 2 < m
    · exact merge_hi dd ih w0 B N c a m bb Rv rk d w H hC hP hd ha hb hgt
    · exact merge_lo dd ih w0 B N c a m bb Rv rk d w H hC hP hd ha hb hgt
end Go.Proofs.Ytmdlcalnncncjaa
