/- block.Indent, and the document's own. -/
import Derived.Test.YtejniiehfangkaaGreatDoorBBld
import Derived.Deep.QuietTactic
import Derived.BigQuiet
set_option linter.unusedVariables false
set_option linter.unusedSimpArgs false
namespace Go.Proofs.YtejniiehfangkaaGreatDoor.Bk
open Go.RowKit
/-- A slice of n cells that reads as the values xs, nil let in. -/
def Rd (w : World) (A : Option Addr) (n : Nat) (xs : List Value) : Prop :=
  xs.length = n ∧ (0 < n → ∃ ad, A = some ad ∧ ad.block < w.heap.size ∧ ∀ j u, xs[j]? = some u → w.cell? (ad.add j) = some u)
theorem add_block (a : Addr) (n : Nat) : (a.add n).block = a.block := by unfold Addr.add; split <;> rfl
theorem add_nought (a : Addr) : a.add 0 = a := by unfold Addr.add; cases a; split <;> simp_all
theorem Rd.below {w w' : World} {A : Option Addr} {n B : Nat} {xs : List Value} (h : Rd w A n xs) (hb : Below B w w') (hB : w.heap.size ≤ B) : Rd w' A n xs :=
  ⟨h.1, fun hn => by
    obtain ⟨ad, e, hlt, hc⟩ := h.2 hn
    exact ⟨ad, e, by have := hb.size; omega, fun j u hu => (hb.cell (by rw [add_block]; omega)).trans (hc j u hu)⟩⟩
theorem Rd.own {w : World} {base : Nat} {e : TypeId} {v : Value} {n : Nat} {xs : List Value} (h : w.ownsRow base e 1 v n xs) : ∃ A c, v = .slice A n c ∧ Rd w A n xs ∧ n ≤ c := by
  rcases h.2 with ⟨rfl, rfl⟩ | ⟨g, cap, cur, rfl, hg, hh, hnc, _⟩
  · exact ⟨none, 0, rfl, ⟨by have := h.1; omega, fun hn => by omega⟩, Nat.le_refl _⟩
  · exact ⟨_, cap, rfl, ⟨by have := h.1; omega, fun _ => ⟨_, rfl, (Array.getElem?_eq_some_iff.1 hh).1, h.cells rfl⟩⟩, hnc⟩
/-- A row of texts, as lines of bytes. -/
def bts (ls : List ByteArray) : List (List UInt8) := ls.map fun x => x.data.toList
theorem bts_at (ls : List ByteArray) (k : Nat) (x : ByteArray) (h : ls[k]? = some x) : (bts ls)[k]? = some x.data.toList := by unfold bts; rw [List.getElem?_map, h]; rfl
theorem bts_len (ls : List ByteArray) : (bts ls).length = ls.length := by simp [bts]
theorem blk_size (x : ByteArray) : blk x.data.toList = (ahd x.data.toList == x.size) := by unfold blk; rw [← Lib.size_eq]
set_option maxHeartbeats 400000 in
theorem indent_any (A : Option Addr) (n c : Nat) (ls : List ByteArray) (w : World) (hn : n ≤ 4294967296) (hA : Rd w A n (ls.map Value.string)) (hs : ∀ x ∈ ls, x.size ≤ 4294967296) :
    Calls Tryz.prog 79 #[.slice A n c] w fun e w' => e = .returned (.int .i64 (ind (bts ls))) ∧ Below w.heap.size w w' := by
  have hl : ls.length = n := by have := hA.1; simpa using this
  have HL := Lib.hid hl
  have HS := Lib.hid hs
  have HA := Lib.hid hA
  clear hl hs hA
  go_enter Tryz.func79, Tryz.ntmps79
  go_wp2
  go_loopw [3, 4, 10] (fun l f i wr => ∃ k : Nat, k ≤ n ∧ i = .int .i64 k ∧ l = .int .i64 ((accAt (bts ls) k).getD 0 : Nat) ∧ f = .bool (accAt (bts ls) k).isSome ∧ Below w.heap.size w wr) (fun _ _ i _ => n - (intOf i).toNat)
  case atStart => exact ⟨0, Nat.zero_le _, rfl, by rw [accAt_one _ _ (by omega)]; rfl, by rw [accAt_one _ _ (by omega)]; rfl, Below.refl _ _⟩
  case round =>
    obtain ⟨k, hk, rfl, rfl, rfl, hbr⟩ := hrel
    by_cases hlt : k < n
    · obtain ⟨x, hx⟩ : ∃ x, ls[k]? = some x := ⟨ls[k]'(by have := HL.out; omega), List.getElem?_eq_getElem _⟩
      have HX := Lib.hid hx
      have hxs := HS.out x (List.mem_of_getElem? hx)
      obtain ⟨ad, rfl, hadb, hcell⟩ := HA.out.2 (by omega)
      have cx : wr.cell? (ad.add k) = some (.string x) := (hbr.cell (by rw [add_block]; exact hadb)).trans (hcell k _ (by simp [hx]))
      have hal := ahd_le x.data.toList
      rw [← Lib.size_eq] at hal
      have HB := Lib.hid (blk_size x)
      have HN := Lib.hid (fun (h1 : 1 ≤ k) => accAt_next (bts ls) k _ h1 (bts_at ls k x hx))
      have hc := fun w => blanks_any x hxs w
      clear hx hcell
      have HSt : Hid (stepI = stepI) := Lib.hid rfl
      unfold stepI at HN
      generalize hac : accAt (bts ls) k = ac at *
      have HAC := Lib.hid hac
      clear hac
      generalize hbk : blk x.data.toList = bk at *
      generalize ahd x.data.toList = a at *
      have HC := Lib.hid hc
      clear hc HSt hbk
      by_cases h0 : k = 0
      · subst h0
        rw [add_nought] at cx
        have HO := Lib.hid (HAC.out.symm.trans ((accAt_one (bts ls) 0 (by omega)).trans (accAt_one (bts ls) 1 (by omega)).symm))
        go_wp2_with (go_at_call 98; refine (HC.out _).mono ?_; rintro e w1 ⟨rfl, hb⟩)
        exact ⟨⟨1, by omega, by go_num, by rw [HO.out], by rw [HO.out], Below_next hbr hb⟩, by simp [intOf]; omega⟩
      · have hz0 : ((k : Int) == 0) = false := by simp; omega
        have HN1 := Lib.hid (HN.out (by omega))
        clear HN h0
        by_cases he : a = x.size
        · subst he
          obtain rfl : bk = true := by rw [HB.out]; simp
          have HO : Hid (accAt (bts ls) (k + 1) = ac) := Lib.hid (by rw [HN1.out]; rfl)
          go_wp2_with (go_at_call 98; refine (HC.out _).mono ?_; rintro e w1 ⟨rfl, hb⟩)
          exact ⟨⟨k + 1, by omega, by go_num, by rw [HO.out], by rw [HO.out], Below_next hbr hb⟩, by simp [intOf]; omega⟩
        · have hze : ((a : Int) == (x.size : Int)) = false := by simp; omega
          obtain rfl : bk = false := by rw [HB.out]; simpa using he
          clear he
          cases ac with
          | none =>
            simp only [Option.getD_none, Option.isSome_none]
            have HO : Hid (accAt (bts ls) (k + 1) = some a) := Lib.hid (by rw [HN1.out]; rfl)
            go_wp2_with (go_at_call 98; refine (HC.out _).mono ?_; rintro e w1 ⟨rfl, hb⟩)
            exact ⟨⟨k + 1, by omega, by go_num, by rw [HO.out]; rfl, by rw [HO.out]; rfl, Below_next hbr hb⟩, by simp [intOf]; omega⟩
          | some m =>
            have HO : Hid (accAt (bts ls) (k + 1) = some (min m a)) := Lib.hid (by rw [HN1.out]; rfl)
            simp only [Option.getD_some, Option.isSome_some]
            by_cases hlm : a < m
            · have hlz : decide ((a : Int) < (m : Int)) = true := by simp; omega
              have hmn : min m a = a := by omega
              rw [hmn] at HO
              clear hmn
              go_wp2_with (go_at_call 98; refine (HC.out _).mono ?_; rintro e w1 ⟨rfl, hb⟩)
              exact ⟨⟨k + 1, by omega, by go_num, by rw [HO.out]; rfl, by rw [HO.out]; rfl, Below_next hbr hb⟩, by simp [intOf]; omega⟩
            · have hlz : decide ((a : Int) < (m : Int)) = false := by simp; omega
              have hmn : min m a = m := by omega
              rw [hmn] at HO
              clear hmn
              go_wp2_with (go_at_call 98; refine (HC.out _).mono ?_; rintro e w1 ⟨rfl, hb⟩)
              exact ⟨⟨k + 1, by omega, by go_num, by rw [HO.out]; rfl, by rw [HO.out]; rfl, Below_next hbr hb⟩, by simp [intOf]; omega⟩
    · obtain rfl : k = n := by omega
      have HI := Lib.hid (ind_at (bts ls) k (by rw [bts_len, HL.out]; exact Nat.le_refl _))
      go_wp2
      go_ret
      exact ⟨ret_int (by rw [HI.out]), hbr⟩
/-- The document's own way to hold what there is so far. -/
def nOf : Option Nat → Int
  | none => -1
  | some m => m
theorem max_nOf (a : Option Nat) : max (nOf a) 0 = (a.getD 0 : Nat) := by
  cases a with
  | none => rfl
  | some m => show max (m : Int) 0 = m; omega
set_option maxHeartbeats 400000 in
theorem indent_ref (A : Option Addr) (n c : Nat) (ls : List ByteArray) (w : World) (hn : n ≤ 4294967296) (hA : Rd w A n (ls.map Value.string)) (hs : ∀ x ∈ ls, x.size ≤ 4294967296) :
    Calls Tryz.prog 86 #[.slice A n c] w fun e w' => e = .returned (.int .i64 (ind (bts ls))) ∧ Below w.heap.size w w' := by
  have hl : ls.length = n := by have := hA.1; simpa using this
  have HL := Lib.hid hl
  have HS := Lib.hid hs
  have HA := Lib.hid hA
  clear hl hs hA
  go_enter Tryz.func86, Tryz.ntmps86
  go_wp2
  go_loopw [3, 4] (fun l i wr => ∃ k : Nat, 1 ≤ k ∧ k ≤ max n 1 ∧ i = .int .i64 k ∧ l = .int .i64 (nOf (accAt (bts ls) k)) ∧ Below w.heap.size w wr) (fun _ i _ => n - (intOf i).toNat)
  case atStart => exact ⟨1, by omega, by omega, rfl, by rw [accAt_one _ _ (by omega)]; rfl, Below.refl _ _⟩
  case round =>
    obtain ⟨k, hk1, hk, rfl, rfl, hbr⟩ := hrel
    by_cases hlt : k < n
    · obtain ⟨x, hx⟩ : ∃ x, ls[k]? = some x := ⟨ls[k]'(by have := HL.out; omega), List.getElem?_eq_getElem _⟩
      have HX := Lib.hid hx
      have hxs := HS.out x (List.mem_of_getElem? hx)
      obtain ⟨ad, rfl, hadb, hcell⟩ := HA.out.2 (by omega)
      have cx : wr.cell? (ad.add k) = some (.string x) := (hbr.cell (by rw [add_block]; exact hadb)).trans (hcell k _ (by simp [hx]))
      have hal := ahd_le x.data.toList
      rw [← Lib.size_eq] at hal
      have HB := Lib.hid (blk_size x)
      have hnx := accAt_next (bts ls) k _ hk1 (bts_at ls k x hx)
      have hc := fun w => first_any x hxs w
      unfold stepI at hnx
      have HN := Lib.hid hnx
      clear hx hcell hnx
      generalize hac : accAt (bts ls) k = ac at *
      have HAC := Lib.hid hac
      clear hac
      generalize hbk : blk x.data.toList = bk at *
      generalize ahd x.data.toList = a at *
      have HC := Lib.hid hc
      clear hc hbk
      by_cases he : a = x.size
      · subst he
        obtain rfl : bk = true := by rw [HB.out]; simp
        have HO : Hid (accAt (bts ls) (k + 1) = ac) := Lib.hid (by rw [HN.out]; rfl)
        go_wp2_with (go_at_call 87; refine (HC.out _).mono ?_; rintro e w1 ⟨rfl, rfl⟩)
        exact ⟨⟨k + 1, by omega, by omega, by go_num, by rw [HO.out], hbr⟩, by simp [intOf] <;> omega⟩
      · have hze : a < x.size := by omega
        obtain rfl : bk = false := by rw [HB.out]; simpa using he
        clear he
        cases ac with
        | none =>
          simp only [nOf]
          have HO : Hid (accAt (bts ls) (k + 1) = some a) := Lib.hid (by rw [HN.out]; rfl)
          go_wp2_with (go_at_call 87; refine (HC.out _).mono ?_; rintro e w1 ⟨rfl, rfl⟩)
          exact ⟨⟨k + 1, by omega, by omega, by go_num, by rw [HO.out] <;> rfl, hbr⟩, by simp [intOf] <;> omega⟩
        | some m =>
          have HO : Hid (accAt (bts ls) (k + 1) = some (min m a)) := Lib.hid (by rw [HN.out]; rfl)
          simp only [nOf]
          by_cases hlm : a < m
          · have hmn : min m a = a := by omega
            rw [hmn] at HO
            clear hmn
            go_wp2_with (go_at_call 87; refine (HC.out _).mono ?_; rintro e w1 ⟨rfl, rfl⟩)
            exact ⟨⟨k + 1, by omega, by omega, by go_num, by rw [HO.out] <;> rfl, hbr⟩, by simp [intOf] <;> omega⟩
          · have hmn : min m a = m := by omega
            rw [hmn] at HO
            clear hmn
            go_wp2_with (go_at_call 87; refine (HC.out _).mono ?_; rintro e w1 ⟨rfl, rfl⟩)
            exact ⟨⟨k + 1, by omega, by omega, by go_num, by rw [HO.out] <;> rfl, hbr⟩, by simp [intOf] <;> omega⟩
    · have HI := Lib.hid (ind_at (bts ls) k (by rw [bts_len, HL.out]; omega))
      have HM := Lib.hid (max_nOf (accAt (bts ls) k))
      generalize nOf (accAt (bts ls) k) = z at *
      go_wp2
      go_ret
      exact ⟨ret_int (by rw [HI.out]; have := HM.out; omega), hbr⟩
end Go.Proofs.YtejniiehfangkaaGreatDoor.Bk
