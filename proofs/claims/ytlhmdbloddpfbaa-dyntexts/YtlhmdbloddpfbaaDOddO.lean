/- dyn.oddOf of an object. -/
import Derived.Test.YtlhmdbloddpfbaaDOddL
import Derived.Deep.RegionHeld3
import Derived.Deep.CutRange
set_option linter.unusedVariables false
set_option linter.unusedSimpArgs false
namespace Go.Proofs.Ytlhmdbloddpfbaa
open Go.RowKit
theorem infoM : (Try.prog.info? 92).map (fun i => (i.zero, i.size, i.bytes)) = some (some (.agg #[.string ByteArray.empty, .nilIface]), 2, 32) := by kernel_rfl
/-- Where the values of an object's pairs stand. -/
def ptrF (F : Option Addr) (i : Nat) : Value := .pointer (F.map fun ad => ⟨(ad.add (i * 6)).block, (ad.add (i * 6)).off + 1, none⟩)
def ptfUp (F : Option Addr) (i j : Nat) : Value := if j < i then ptrF F j else .pointer none
/-- A row of members with the first i keys. -/
def memUp (ks : List ByteArray) (i j : Nat) : Value := if j % 2 = 0 then (if j / 2 < i then .string (ks.getD (j / 2) ByteArray.empty) else .string ByteArray.empty) else .nilIface
theorem run_make_mem (n : Nat) (hn : n ≤ 1000) (w : World) : (Instr.makeSlice 87 (.int .i64 (n : Int)) (.int .i64 (n : Int))).run Try.prog w = .ok (.slice (some ⟨w.heap.size, 0, none⟩) n n) (w.alloc (.cells (madeCells #[.string ByteArray.empty, .nilIface] (n * 2)) 92)) := by
  obtain ⟨i, hi, hzz⟩ := Option.map_eq_some_iff.1 infoM
  simp only [Prod.mk.injEq] at hzz
  obtain ⟨hz, hs, hb⟩ := hzz
  have hr := run_make (P := Try.prog) w 87 92 i _ Try.underlying87 hi hz .i64 .i64 n n (by omega) (Int.le_refl _) (by rw [hb]; omega) (by omega)
  simp only [Int.toNat_natCast, hs] at hr
  exact hr
theorem mem_made (w : World) (n : Nat) (ks : List ByteArray) : (w.alloc (.cells (madeCells #[.string ByteArray.empty, .nilIface] (n * 2)) 92)).rowIs w.heap.size 92 (n * 2) (memUp ks 0) := by
  refine ⟨_, heap_alloc_new _ _, size_madeCells _ _, fun i hi => ?_⟩
  simp only [madeCells, Array.getElem?_map, Array.getElem?_range, hi, if_true, Option.map_some]
  rcases Nat.mod_two_eq_zero_or_one i with h | h <;> simp [memUp, h]
/-- What oddOf answers of an object. -/
def OddO (n : Nat) (ks : List ByteArray) (F : Option Addr) (w : World) (e : Ending) (w' : World) : Prop := ∃ g I, e = .returned (.tuple #[.iface 87 (.slice (some ⟨g, 0, none⟩) n n), .slice (some ⟨I, 0, none⟩) n n]) ∧ g ≠ I ∧ w.heap.size ≤ g ∧ w.heap.size ≤ I ∧ w'.rowIs g 92 (n * 2) (memUp ks n) ∧ w'.rowIs I 82 n (ptrF F) ∧ Below w.heap.size w w'
/-- Behind both makes. -/
structure Mk2 (w : World) (n : Nat) (ks : List ByteArray) (F : Option Addr) (g I i : Nat) (wr : World) : Prop where
  ne : g ≠ I
  lg : w.heap.size ≤ g
  lI : w.heap.size ≤ I
  rg : wr.rowIs g 92 (n * 2) (memUp ks i)
  rI : wr.rowIs I 82 n (ptfUp F i)
  bel : Below w.heap.size w wr
theorem Mk2.ofA (w : World) (n : Nat) (ks : List ByteArray) (F : Option Addr) : Mk2 w n ks F w.heap.size (w.heap.size + 1) 0 ((w.alloc (.cells (madeCells #[.string ByteArray.empty, .nilIface] (n * 2)) 92)).alloc (.cells (madeCells #[.pointer none] n) 82)) := by
  have h1 := mem_made w n ks
  have h2 := World.rowIs_made (w.alloc (.cells (madeCells #[.string ByteArray.empty, .nilIface] (n * 2)) 92)) (.pointer none) n 82
  rw [World.size_alloc] at h2
  exact ⟨by omega, Nat.le_refl _, by omega, h1.alloc _, h2.congr (fun i hi => by simp [ptfUp]), ((Below.refl _ _).alloc (Nat.le_refl _) _).alloc (by simp) _⟩
theorem Mk2.ofB (w : World) (n : Nat) (ks : List ByteArray) (F : Option Addr) : Mk2 w n ks F (w.heap.size + 1) w.heap.size 0 ((w.alloc (.cells (madeCells #[.pointer none] n) 82)).alloc (.cells (madeCells #[.string ByteArray.empty, .nilIface] (n * 2)) 92)) := by
  have h1 := World.rowIs_made w (.pointer none) n 82
  have h2 := mem_made (w.alloc (.cells (madeCells #[.pointer none] n) 82)) n ks
  rw [World.size_alloc] at h2
  exact ⟨by omega, by omega, Nat.le_refl _, h2, (h1.congr (fun i hi => by simp [ptfUp])).alloc _, ((Below.refl _ _).alloc (Nat.le_refl _) _).alloc (by simp) _⟩
theorem Mk2.drew {w : World} {n : Nat} {ks : List ByteArray} {F : Option Addr} {g I i : Nat} {wr : World} (H : Mk2 w.drew n ks F g I i wr) : Mk2 w n ks F g I i wr := ⟨H.ne, H.lg, H.lI, H.rg, H.rI, ((Below.refl w.heap.size w).drew).trans H.bel⟩
theorem Mk2.step {w : World} {n : Nat} {ks : List ByteArray} {F : Option Addr} {g I i : Nat} {wr w1 : World} {key : ByteArray} {ad : Addr} (H : Mk2 w n ks F g I i wr) (hb : Below wr.heap.size wr w1) (hk : ks[i]? = some key) (hF : F = some ad) (hi : i < n) :
    Mk2 w n ks F g I (i + 1) ((w1.setCell ⟨g, i * 2, none⟩ (.string key)).setCell ⟨I, i, none⟩ (.pointer (some ⟨(ad.add (i * 6)).block, (ad.add (i * 6)).off + 1, none⟩))) := by
  have r1 := rowIs_below H.rg hb H.rg.lt
  have r2 := rowIs_below H.rI hb H.rI.lt
  refine ⟨H.ne, H.lg, H.lI, ?_, ?_, ((H.bel.trans (hb.mono H.bel.size)).setCell H.lg _).setCell H.lI _⟩
  · refine (((r1.set (i * 2) (.string key))).setOther (a := ⟨I, i, none⟩) H.ne _).congr (fun j hj => ?_)
    simp only [memUp]
    by_cases e : j = i * 2
    · subst e
      rw [if_pos rfl, if_pos (by omega), show i * 2 / 2 = i by omega, if_pos (by omega)]
      simp [List.getD, hk]
    · rw [if_neg e]
      by_cases e2 : j % 2 = 0
      · rw [if_pos e2, if_pos e2]
        by_cases e3 : j / 2 < i
        · rw [if_pos e3, if_pos (by omega)]
        · rw [if_neg e3, if_neg (by omega)]
      · rw [if_neg e2, if_neg e2]
  · refine ((r2.setOther (a := ⟨g, i * 2, none⟩) (Ne.symm H.ne) _).set i _).congr (fun j hj => ?_)
    simp only [ptfUp]
    by_cases e : j = i
    · subst e
      simp [ptrF, hF]
    · rw [if_neg e]
      by_cases e2 : j < i
      · rw [if_pos e2, if_pos (by omega)]
      · rw [if_neg e2, if_neg (by omega)]
end Go.Proofs.Ytlhmdbloddpfbaa
