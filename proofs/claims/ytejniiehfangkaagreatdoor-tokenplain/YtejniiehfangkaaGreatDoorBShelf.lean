/- The library's contract of strings.TrimLeft at two blanks, laid by hand at this seat. -/
import Derived.Test.YtejniiehfangkaaGreatDoorShelf
import Derived.Shelf.Strings.Runes
import Derived.Shelf.Strings.AsciiSet
import Derived.Shelf.Unicode.DecodeSlow
import Derived.Shelf.Strings.SlTrimAscii
namespace Go.Proofs
open Go.Shelf
open Go.RowKit in
theorem Tryz.strings_TrimLeft_blanks (s : ByteArray) (w : World) :
    Calls Tryz.prog 113 #[.string s, .string ⟨#[32, 9]⟩] w fun e w' => e = .returned (.string ⟨(Lib.trimLeftS s.data.toList [32, 9]).toArray⟩) ∧ Below w.heap.size w w' := Any.strings_TrimLeft_laid Tryz.lays161 (by kernel_rfl) s ⟨#[32, 9]⟩ w (by decide) (ascii_of_all (by decide))
end Go.Proofs
