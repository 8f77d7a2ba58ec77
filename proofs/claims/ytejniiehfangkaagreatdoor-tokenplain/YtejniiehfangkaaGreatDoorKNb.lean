/- Numbers among tokens, and the library's variables that the layer leans on. -/
import Derived.Test.YtejniiehfangkaaGreatDoorKTake
import Derived.Test.YtejniiehfangkaaGreatDoorKNum
import Derived.Test.YtejniiehfangkaaGreatDoorShelf
import Derived.Test.YtejniiehfangkaaGreatDoorQBoth
set_option linter.unusedVariables false
set_option linter.unusedSimpArgs false
namespace Go.Proofs.YtejniiehfangkaaGreatDoor
open Go.RowKit
/-- What the library's listed variables hold. -/
structure LV (w : World) : Prop where
  both : Both w
  rng : ∃ te pe, w.cell? ⟨1, 0, none⟩ = some (.iface te pe)
  mx : ∃ m : Int, w.cell? ⟨2, 0, none⟩ = some (.int .i64 m)
theorem LV.go {w w' : World} (h : LV w) (hb : Below w.heap.size w w') : LV w' := by
  refine ⟨h.both.go hb, ?_, ?_⟩
  · obtain ⟨te, pe, h⟩ := h.rng
    exact ⟨te, pe, (hb.cell (p := ⟨1, 0, none⟩) (cell_lt h)).trans h⟩
  · obtain ⟨m, h⟩ := h.mx
    exact ⟨m, (hb.cell (p := ⟨2, 0, none⟩) (cell_lt h)).trans h⟩
theorem lt_of_cell {w : World} {g k : Nat} {v : Value} (h : w.cell? ⟨g, k, none⟩ = some v) : g < w.heap.size := cell_lt h
/-- What ParseInt tells of a numeral, or of what is none. -/
def PiR (l : List UInt8) (e : Ending) : Prop := match Lib.parseIntB 64 l with
  | .ok v => e = .returned (.tuple #[.int .i64 v, .nilIface])
  | _ => ∃ (v : Int) (te : TypeId) (pe : Value), e = .returned (.tuple #[.int .i64 v, .iface te pe])
theorem parseInt_any (t : ByteArray) (ht : t.size ≤ 1000000) (w : World) (h : LV w) : Calls Tryz.prog 58 #[.string t, .int .i64 10, .int .i64 64] w fun e w' => PiR t.data.toList e ∧ Below w.heap.size w w' := by
  unfold PiR
  cases hp : Lib.parseIntB 64 t.data.toList with
  | ok v =>
    refine (Tryz.strconv_ParseInt_10_at64_ok t (by omega) v hp w).mono ?_
    rintro e w' ⟨rfl, hw⟩
    refine ⟨rfl, ?_⟩
    rcases hw with rfl | ⟨t2, rfl⟩
    · exact Below.refl _ _
    · exact Lib.bytesWorld_below _ _ _
  | «syntax» =>
    obtain ⟨te, pe, hc⟩ := h.both.2
    refine (Tryz.strconv_ParseInt_10_at64_syntax t (by omega) hp _ w hc (.inr ⟨te, pe, rfl⟩)).mono ?_
    rintro e w' ⟨N, rfl, _, _, hb⟩
    exact ⟨⟨_, _, _, rfl⟩, hb⟩
  | range =>
    obtain ⟨te, pe, hc⟩ := h.rng
    refine (Tryz.strconv_ParseInt_10_at64_range t (by omega) hp _ w hc (.inr ⟨te, pe, rfl⟩)).mono ?_
    rintro e w' ⟨N, rfl, _, _, hb⟩
    exact ⟨⟨_, _, _, rfl⟩, hb⟩
/-- What number answers. -/
def NbR (F : Fst) (e : Ending) : Prop := match F with
  | .ok _ s _ => e = .returned (.tuple #[.string ⟨s.toArray⟩, .bool true])
  | .no _ => e = .returned (.tuple #[.string ⟨#[]⟩, .bool false])
theorem hd48_pre (l : List UInt8) : Lib.hasPrefix l [48] = hd48 l := by
  unfold Lib.hasPrefix hd48
  cases l with
  | nil => rfl
  | cons c t =>
    simp only [List.isPrefixOf, Bool.and_true]
    rw [Bool.eq_iff_iff]
    simp only [beq_iff_eq]
    constructor
    · intro e; rw [← e]; rfl
    · intro e; exact (UInt8.toNat_inj.1 (e.trans rfl)).symm
theorem ba_eq (s : ByteArray) : (⟨s.data.toList.toArray⟩ : ByteArray) = s := by simp
/-- The end of number, over what its digits are. -/
def nbEnd (A D : ByteArray) (l : List UInt8) : Prop := (A ++ D).data.toList = prN l ∧ A.data.toList = mnT l ∧ A.size + D.size ≤ 1000001
end Go.Proofs.YtejniiehfangkaaGreatDoor
