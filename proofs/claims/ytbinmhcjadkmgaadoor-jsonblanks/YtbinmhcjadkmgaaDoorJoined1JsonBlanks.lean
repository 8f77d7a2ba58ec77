/- Several of the texts that this claim leans on, one behind the other. -/
import Derived.Test.YtbinmhcjadkmgaaDoorQAwake
import Derived.Test.YtbinmhcjadkmgaaDoorUWalk
import Derived.Test.YtbinmhcjadkmgaaDoorJRd
import Derived.Test.YtbinmhcjadkmgaaDoorJMdl
import Derived.Test.YtbinmhcjadkmgaaDoorPQuiet
import Derived.Test.YtbinmhcjadkmgaaDoorTOpen
import Derived.Deep.RegionHeld3
import Derived.Deep.Cut
import Derived.Laws.OwnMore
import Derived.Laws.MakeOwn
import Derived.Deep.RegionHeld
import Derived.Deep.AppendLies
import Derived.Test.YtbinmhcjadkmgaaDoorTPlaces
import Derived.Deep.CutRange
import Derived.Lib.ParseIntBCases
import Derived.Shelf.Strings.Builder1
import Derived.Shelf.Small.Strs
import Derived.Shelf.Small.Wraps
import Derived.Shelf.Strconv.Itoa0
import Derived.Shelf.Strconv.Itoa1
import Derived.Shelf.LaysM
import Derived.Shelf.Strconv.Itoa2
import Derived.Shelf.Strconv.Itoa3
import Derived.Shelf.Strconv.ParseIntEmpty
import Derived.Shelf.Strconv.Clone
import Derived.Shelf.Strconv.SyntaxError
import Derived.Shelf.LaysC
import Derived.Shelf.Strconv.ToError
import Derived.Shelf.Strconv.Lower
import Derived.Shelf.Strconv.ParseUint10
import Derived.Shelf.Strconv.ParseUint10Empty
import Derived.Shelf.Strconv.ParseUint10Any
import Derived.Shelf.Strconv.ParseInt10
import Derived.Shelf.Strconv.RangeError
import Derived.Shelf.Strconv.ToErrorRange
import Derived.Shelf.Strconv.ParseUintEmpty
import Derived.Shelf.Strconv.ParseUint10b64
import Derived.Shelf.Strconv.ParseUint10b32
import Derived.Shelf.Strconv.ParseUint10b16
import Derived.Shelf.Strconv.ParseUint10b8
import Derived.Shelf.Strconv.ParseUint10At
import Derived.Shelf.Strconv.ParseInt10At64
import Derived.Shelf.Strconv.ParseInt10At32
import Derived.Shelf.Strconv.ParseInt10At16
import Derived.Shelf.Strconv.ParseInt10At8
import Derived.Shelf.Strconv.ParseInt10All
import Derived.Shelf.Strconv.ParseIntPublic10
import Derived.Shelf.Strings.Search1
import Derived.Shelf.Strings.Prefix
import Derived.Test.YtbinmhcjadkmgaaDoorProg
/- The listed variables of the laws that read: the table's cell, and what strconv.ErrSyntax holds. -/
set_option linter.unusedVariables false
set_option linter.unusedSimpArgs false
namespace Go.Proofs.YtbinmhcjadkmgaaDoor
open Go.RowKit
def Both (w : World) : Prop := Tab16 w ∧ ErrV w
theorem Both.go {w w' : World} (h : Both w) (hb : Below w.heap.size w w') : Both w' := ⟨h.1.go hb, h.2.go hb⟩
theorem gErr : Tryd.prog.globalNamed "strconv.ErrSyntax" = some 4 := by kernel_rfl
theorem tyErr : (Tryd.prog.globals[(4 : Nat)]?).map (·.type) = some 51 := by kernel_rfl
theorem rowErr (u : TypeId) (hu : Tryd.prog.typeName? 3 u = some "*errors.errorString") : u = 129 :=
  typeName_ptr_named (P := Tryd.prog) (nm := "errors.errorString") (by kernel_rfl) (by kernel_rfl) (by decide) u hu
theorem err_of {r : List (String × DataW Unit)} {W : World} (h : laidMet Tryd.prog (("strconv.ErrSyntax", Rows.laid_strconv_ErrSyntax) :: r) W) : ErrV W := by
  obtain ⟨a, s, hv, _⟩ := laid_sentinel h gErr tyErr Tryd.underlying51 rowErr Tryd.underlying129 Tryd.underlying131 rfl rfl Tryd.underlying9 (by kernel_rfl) (by kernel_rfl)
  have := World.var?_cell gErr hv 0
  exact ⟨_, _, by simpa using this⟩
theorem both_of {a b d : String × DataW Unit} {W : World} (h : laidMet Tryd.prog (a :: ("math/bits.deBruijn64tab", Rows.laid_math_bits_deBruijn64tab) :: b :: d :: [("strconv.ErrSyntax", Rows.laid_strconv_ErrSyntax)]) W) : Both W :=
  ⟨tab_of h, err_of h.tail.tail.tail.tail⟩
/-- Unquote, whatever stands there. -/
theorem unq_any (s : ByteArray) (hs : s.size ≤ 1048576) (w : World) (hE : ErrV w) : Calls Tryd.prog 61 #[.string s] w fun e w' => e = unqE s ∧ Below w.heap.size w w' := by
  by_cases h : 0 < s.size ∧ (s.get! 0).toNat = 34
  · exact unq_some s hs h.1 h.2 w hE
  · exact unq_none s hs h w
end Go.Proofs.YtbinmhcjadkmgaaDoor

/- cascade/json's reader: its end, texts and words. -/
set_option linter.unusedVariables false
set_option linter.unusedSimpArgs false
namespace Go.Proofs.YtbinmhcjadkmgaaDoor
open Go.RowKit
/-- What the library's other variable holds. -/
def ErrW (w : World) : Prop := ∃ te pe, w.cell? ⟨5, 0, none⟩ = some (.iface te pe)
/-- The library's variables, whatever has become of the memory from R on. -/
def EV (R : Nat) (w : World) : Prop := ∀ w', Below R w w' → ErrV w' ∧ ErrW w'
theorem EV.go {R : Nat} {w w' : World} (h : EV R w) (hb : Below R w w') : EV R w' := fun w2 h2 => h w2 (hb.trans h2)
theorem EV.rd {R : Nat} {w w' : World} {s : ByteArray} {a e b : Int} (h : EV R w) (hp : RdP R w s a e b w') : EV R w' := h.go hp.2.bel
/-! ### end -/
set_option maxHeartbeats 400000 in
set_option maxRecDepth 100000 in
theorem end_more (R : Nat) (s : ByteArray) (a : Nat) (b : Int) (w : World) (h : Rdr w R s a 0 b) (ha : a ≤ s.size) (hs : s.size ≤ 1000000) (hl : blk s a < s.size) : Calls Tryd.prog 34 #[.pointer (some ⟨R, 0, none⟩)] w fun e' w' => e' = .returned (.tuple #[]) ∧ RdP R w s (blk s a) 4 (blk s a) w' := by
  have K := Lib.hid (blanks_any R s a 0 b w h ha hs)
  clear h
  go_enter Tryd.func34, Tryd.ntmps34
  go_wp2_with fail
  refine K.out.mono ?_
  rintro e' w1 ⟨rfl, h1⟩
  have H1 := Lib.hid h1
  have c0 := h1.1.c0
  have c1 := h1.1.c1
  clear h1 K
  go_wp2_with fail
  go_quiet (fail)
  go_wp2_with fail
  have c1 : (w1.drewN nq).cell? ⟨R, 1, none⟩ = some (.int .i64 (blk s a)) := c1
  refine (fail_first R s _ b _ 4 (w1.drewN nq) (H1.out.drewN nq).1).mono ?_
  rintro e' w2 ⟨rfl, h2⟩
  go_wp2_with fail
  go_end0
  exact ⟨rfl, (H1.out.drewN nq).trans h2⟩
set_option maxHeartbeats 400000 in
set_option maxRecDepth 100000 in
theorem end_none (R : Nat) (s : ByteArray) (a : Nat) (e b : Int) (w : World) (h : Rdr w R s a e b) (ha : a ≤ s.size) (hs : s.size ≤ 1000000) (hl : ¬ blk s a < s.size) : Calls Tryd.prog 34 #[.pointer (some ⟨R, 0, none⟩)] w fun e' w' => e' = .returned (.tuple #[]) ∧ RdP R w s (blk s a) e b w' := by
  have K := Lib.hid (blanks_any R s a e b w h ha hs)
  clear h
  go_enter Tryd.func34, Tryd.ntmps34
  go_wp2_with fail
  refine K.out.mono ?_
  rintro e' w1 ⟨rfl, h1⟩
  have H1 := Lib.hid h1
  have c0 := h1.1.c0
  have c1 := h1.1.c1
  clear h1 K
  go_wp2_with fail
  go_quiet (fail)
  go_wp2_with fail
  go_end0
  exact ⟨rfl, H1.out.drewN nq⟩
set_option maxHeartbeats 400000 in
set_option maxRecDepth 100000 in
theorem end_bad (R : Nat) (s : ByteArray) (a : Nat) (e b : Int) (w : World) (h : Rdr w R s a e b) (he : e ≠ 0) (ha : a ≤ s.size) (hs : s.size ≤ 1000000) : Calls Tryd.prog 34 #[.pointer (some ⟨R, 0, none⟩)] w fun e' w' => e' = .returned (.tuple #[]) ∧ RdP R w s (blk s a) e b w' := by
  by_cases hl : blk s a < s.size
  · have K := Lib.hid (blanks_any R s a e b w h ha hs)
    have HE := Lib.hid he
    clear h he
    go_enter Tryd.func34, Tryd.ntmps34
    go_wp2_with fail
    refine K.out.mono ?_
    rintro e' w1 ⟨rfl, h1⟩
    have H1 := Lib.hid h1
    have c0 := h1.1.c0
    have c1 := h1.1.c1
    clear h1 K
    go_wp2_with fail
    go_quiet (fail)
    go_wp2_with fail
    have c1 : (w1.drewN nq).cell? ⟨R, 1, none⟩ = some (.int .i64 (blk s a)) := c1
    refine (fail_more R s _ b e _ 4 (w1.drewN nq) (H1.out.drewN nq).1 HE.out).mono ?_
    rintro e' w2 ⟨rfl, h2⟩
    go_wp2_with fail
    go_end0
    exact ⟨rfl, (H1.out.drewN nq).trans h2⟩
  · exact end_none R s a e b w h ha hs hl
/-! ### digit -/
theorem digit_any (c : UInt8) (w : World) : Calls Tryd.prog 45 #[.int .u8 c.toNat] w fun e w' => e = .returned (.bool (isDg c)) ∧ w' = w := by
  have hlt : c.toNat < 256 := UInt8.toNat_lt _
  have HD := Lib.hid (show isDg c = decide (48 ≤ c.toNat ∧ c.toNat ≤ 57) from rfl)
  obtain ⟨z, hz⟩ : ∃ z : Int, z = (c.toNat : Int) := ⟨_, rfl⟩
  have HZ := Lib.hid hz
  have h0 : 0 ≤ z := by omega
  have h1 : z < 256 := by omega
  rw [← hz]
  clear hz hlt
  by_cases a : 48 ≤ z
  · by_cases b : z ≤ 57
    · go_enter Tryd.func45, Tryd.ntmps45
      go_wp2_with fail
      go_ret
      have := HZ.out
      refine ⟨?_, rfl⟩
      rw [HD.out]
      simp
      omega
    · go_enter Tryd.func45, Tryd.ntmps45
      go_wp2_with fail
      go_ret
      have := HZ.out
      refine ⟨?_, rfl⟩
      rw [HD.out]
      simp
      omega
  · go_enter Tryd.func45, Tryd.ntmps45
    go_wp2_with fail
    go_ret
    have := HZ.out
    refine ⟨?_, rfl⟩
    rw [HD.out]
    simp
    omega
/-! ### quoted -/
/-- A text was read from a on, or there is an error. -/
def QtP (R : Nat) (s : ByteArray) (a : Nat) (b : Int) (qt : List UInt8) (qn qe : Nat) (w : World) (e : Ending) (w' : World) : Prop :=
  (qe = 0 ∧ e = .returned (.string ⟨qt.toArray⟩) ∧ RdP R w s ((a + qn : Nat) : Int) 0 b w') ∨ (qe ≠ 0 ∧ e = .returned (.string ByteArray.empty) ∧ RdP R w s a (qe : Nat) ((a + qn : Nat) : Int) w')
abbrev QtR (R : Nat) (s : ByteArray) (a : Nat) (b : Int) (w : World) (e : Ending) (w' : World) : Prop := QtP R s a b (uq s a).1 (uq s a).2.1 (uq s a).2.2 w e w'
set_option maxHeartbeats 1000000 in
set_option maxRecDepth 100000 in
theorem quoted_any (R : Nat) (s : ByteArray) (a : Nat) (b : Int) (w : World) (h : Rdr w R s a 0 b) (ha : a ≤ s.size) (hs : s.size ≤ 1000000) (hE : EV R w) : Calls Tryd.prog 44 #[.pointer (some ⟨R, 0, none⟩)] w fun e w' => QtR R s a b w e w' := by
  have HH := Lib.hid h
  have hRl := h.lt
  have HQ := Lib.hid (uq_in ha)
  have hq1 := (uq_in ha).1
  have C0 : ∀ x : BlwBy w, x.now.cell? ⟨R, 0, none⟩ = some (.string s) := fun x => x.cell hRl h.c0
  have C1 : ∀ x : BlwBy w, x.now.cell? ⟨R, 1, none⟩ = some (.int .i64 a) := fun x => x.cell hRl h.c1
  have KM : Hid (∀ x : BlwBy w, Calls Tryd.prog 61 #[.string (s.extract a s.size)] x.now fun e w'' => e = .returned (.tuple #[.string ⟨(uq s a).1.toArray⟩, .int .i64 (uq s a).2.1, .int .i64 (uq s a).2.2]) ∧ ∃ q : BlwBy w, w'' = q.now) := Lib.hid (fun x => Calls.below_of ((unq_any (s.extract a s.size) (by rw [ByteArray.size_extract]; omega) x.now (hE x.now (x.bel.mono (by omega))).1).mono (by
    rintro e w' ⟨rfl, hb⟩
    exact ⟨rfl, hb⟩)))
  clear h hE
  show Calls Tryd.prog 44 #[.pointer (some ⟨R, 0, none⟩)] w fun e w' => QtP R s a b (uq s a).1 (uq s a).2.1 (uq s a).2.2 w e w'
  generalize (uq s a).1 = qt at KM ⊢
  generalize (uq s a).2.1 = qn at KM hq1 ⊢
  generalize (uq s a).2.2 = qe at KM ⊢
  go_enter Tryd.func44, Tryd.ntmps44
  go_wp2_with fail
  refine wp_quiet_below (by kernel_rfl) (by kernel_rfl) ?_
  repeat (quiet_step (first | (go_at_call 61; exact KM.out _)))
  refine wpQuiet_nil ?_
  intro w9 hw'
  have hb9 : Below w.heap.size w w9 := by obtain ⟨⟨wx, hbx⟩, hw''⟩ := hw'; rw [hw'']; exact hbx
  clear hw' C0 C1 KM
  have H9 := Lib.hid ((RdP.start HH.out).below hb9)
  have c1 := H9.out.1.c1
  have f1 := H9.out.1.fz 1
  clear hb9
  by_cases he : qe = 0
  · subst he
    go_wp2_with fail
    go_ret
    exact .inl ⟨rfl, rfl, by rw [Int.natCast_add]; exact H9.out.set1 _⟩
  · have he' : (((qe : Nat) : Int) != 0) = true := by simpa using he
    have HE := Lib.hid he
    clear he
    go_wp2_with fail
    refine (fail_first R s a b _ qe w9 H9.out.1).mono ?_
    rintro e' w2 ⟨rfl, h2⟩
    go_wp2_with fail
    go_ret
    exact .inr ⟨HE.out, rfl, by rw [Int.natCast_add]; exact H9.out.trans h2⟩
end Go.Proofs.YtbinmhcjadkmgaaDoor

/- cascade/json's reader: words; what a reading method leaves. -/
set_option linter.unusedVariables false
set_option linter.unusedSimpArgs false
namespace Go.Proofs.YtbinmhcjadkmgaaDoor
open Go.RowKit
/-- A value was read, in new memory, or there is an error. -/
def VlR (R : Nat) (s : ByteArray) (b : Int) (g : Got) (w : World) (e : Ending) (w' : World) : Prop :=
  ∃ h' : Hd, e = .returned (.agg #[.int .i64 h'.k, .int .i64 h'.n, .string h'.s, .slice h'.A h'.la h'.lc, .slice h'.F h'.lf h'.fc]) ∧
    ((∃ (a : Va) (j : Nat), g = .ok a j ∧ RdP R w s j 0 b w' ∧ Lies w' (fun x => w.heap.size ≤ x) a h') ∨ (∃ (er : Int) (bd : Nat), g = .no er bd ∧ er ≠ 0 ∧ ∃ a' : Nat, a' ≤ s.size ∧ RdP R w s a' er bd w'))
theorem RdP.alloc {R : Nat} {w w1 : World} {s : ByteArray} {a e b : Int} (h : RdP R w s a e b w1) (o : Obj) : RdP R w s a e b (w1.alloc o) := h.below ((Below.refl _ _).alloc (Nat.le_refl _) o)
theorem rowIs_blk {N : Nat} {w w' : World} {t : TypeId} {n : Nat} {f : Nat → Value} (h : w.rowIs N t n f) (hb : w'.heap[N]? = w.heap[N]?) : w'.rowIs N t n f := by
  obtain ⟨c, h1, h2, h3⟩ := h
  exact ⟨c, by rw [hb]; exact h1, h2, h3⟩
def hdAt (h : Hd) (j : Nat) : Value := h.cells.getD j undef
theorem hdAt_row {w : World} {N : Nat} {h : Hd} (H : w.heap[N]? = some (.cells #[.int .i64 h.k, .int .i64 h.n, .string h.s, .slice h.A h.la h.lc, .slice h.F h.lf h.fc] 25)) : w.rowIs N 25 5 (hdAt h) := by
  refine ⟨_, H, rfl, fun i hi => ?_⟩
  match i, hi with
  | 0, _ => rfl
  | 1, _ => rfl
  | 2, _ => rfl
  | 3, _ => rfl
  | 4, _ => rfl
abbrev zeroRes : Nat → Value := hdAt ⟨0, 0, ByteArray.empty, none, 0, 0, none, 0, 0⟩
abbrev res5 (wr : World) (Q : Nat) (u : Hd) : World := (((((wr.setCell ⟨Q, 0, none⟩ (.int .i64 u.k)).setCell ⟨Q, 1, none⟩ (.int .i64 u.n)).setCell ⟨Q, 2, none⟩ (.string u.s)).setCell ⟨Q, 3, none⟩ (.slice u.A u.la u.lc)).setCell ⟨Q, 4, none⟩ (.slice u.F u.lf u.fc))
theorem res5_set {wr : World} {Q : Nat} {u : Hd} : ∀ b, b ≠ Q → (res5 wr Q u).heap[b]? = wr.heap[b]? := fun b hb => by
  rw [Below.heap_setCell _ _ _ _ hb, Below.heap_setCell _ _ _ _ hb, Below.heap_setCell _ _ _ _ hb, Below.heap_setCell _ _ _ _ hb, Below.heap_setCell _ _ _ _ hb]
theorem res5_below {B Q : Nat} {w wr : World} {u : Hd} (h : Below B w wr) (hR : B ≤ Q) : Below B w (res5 wr Q u) :=
  ((((h.setCell hR _).setCell hR _).setCell hR _).setCell hR _).setCell hR _
theorem res5_size {wr : World} {Q : Nat} {u : Hd} : (res5 wr Q u).heap.size = wr.heap.size := by simp [res5]
/-- A result is written into a block that is new. -/
theorem RdP.res {R Q : Nat} {w w1 : World} {s : ByteArray} {a e b : Int} {u : Hd} (h : RdP R w s a e b w1) (hR : R < w.heap.size) (hQ : w.heap.size ≤ Q) : RdP R w s a e b (res5 w1 Q u) := by
  refine ⟨(res5_set R (by omega)).trans h.1, res5_below h.2.bel (by omega), by rw [res5_size]; exact h.2.size, fun k h1 h2 => ?_⟩
  rw [res5_set k (by omega)]
  exact h.2.block k h1 h2
/-- The start: the result's block is new. -/
theorem RdP.from {R : Nat} {w : World} {s : ByteArray} {a e b : Int} {w1 : World} {o : Obj} (h : RdP R (w.alloc o) s a e b w1) (hR : R < w.heap.size) : RdP R w s a e b w1 :=
  ⟨h.1, (Kp.of_below ((Below.refl _ _).alloc (Nat.le_refl _) o) hR).trans h.2⟩
theorem kept_row {R Q : Nat} {w w1 : World} {s : ByteArray} {a e b : Int} {u : Hd} (h : RdP R w s a e b w1) (hr : w.rowIs Q 25 5 (hdAt u)) (hQ : Q ≠ R) : w1.rowIs Q 25 5 (hdAt u) := rowIs_blk hr (h.2.block Q hQ hr.lt)
theorem new_row (w : World) : (w.alloc (Obj.cells #[.int .i64 0, .int .i64 0, .string { data := #[] }, .slice none 0 0, .slice none 0 0] 25)).rowIs w.heap.size 25 5 zeroRes := hdAt_row (h := ⟨0, 0, ByteArray.empty, none, 0, 0, none, 0, 0⟩) (heap_alloc_new w _)
theorem VlR.leaf {R Q : Nat} {s : ByteArray} {b k n : Int} {g : Got} {w w1 : World} {j : Nat} (hg : g = .ok (leafV k n) j) (h : RdP R w s j 0 b w1) (hR : R < w.heap.size) (hQ : w.heap.size ≤ Q) (hk : -9223372036854775808 ≤ k ∧ k ≤ 9223372036854775807) (hn : -9223372036854775808 ≤ n ∧ n ≤ 9223372036854775807) :
    VlR R s b g w (.returned (.agg #[.int .i64 k, .int .i64 n, .string ByteArray.empty, .slice none 0 0, .slice none 0 0])) (res5 w1 Q ⟨k, n, ByteArray.empty, none, 0, 0, none, 0, 0⟩) :=
  ⟨⟨k, n, ByteArray.empty, none, 0, 0, none, 0, 0⟩, rfl, .inl ⟨leafV k n, j, hg, h.res hR hQ, lies_leaf _ _ k n hk hn⟩⟩
theorem VlR.bad {R Q : Nat} {s : ByteArray} {b er : Int} {g : Got} {w w1 : World} {bd a' : Nat} {u : Hd} (hg : g = .no er bd) (h0 : er ≠ 0) (ha : a' ≤ s.size) (h : RdP R w s a' er bd w1) (hR : R < w.heap.size) (hQ : w.heap.size ≤ Q) :
    VlR R s b g w (.returned (.agg #[.int .i64 u.k, .int .i64 u.n, .string u.s, .slice u.A u.la u.lc, .slice u.F u.lf u.fc])) (res5 w1 Q u) :=
  ⟨u, rfl, .inr ⟨er, bd, hg, h0, a', ha, h.res hR hQ⟩⟩
set_option maxHeartbeats 1000000 in
set_option maxRecDepth 100000 in
theorem word_any (R : Nat) (s : ByteArray) (a : Nat) (b : Int) (w : World) (h : Rdr w R s a 0 b) (ha : a ≤ s.size) (hs : s.size ≤ 1000000) : Calls Tryd.prog 49 #[.pointer (some ⟨R, 0, none⟩)] w fun e w' => VlR R s b (wordG s a) w e w' := by
  have hR := h.lt
  have HH := Lib.hid (show Rdr (w.alloc (Obj.cells #[.int .i64 0, .int .i64 0, .string { data := #[] }, .slice none 0 0, .slice none 0 0] 25)) R s a 0 b from h.below ((Below.refl _ _).alloc (Nat.le_refl _) _))
  have HRow := Lib.hid (new_row w)
  have hQR : w.heap.size ≠ R := by omega
  clear h
  have HFROM := Lib.hid (show ∀ (a e b : Int) w1, RdP R (w.alloc (Obj.cells #[.int .i64 0, .int .i64 0, .string { data := #[] }, .slice none 0 0, .slice none 0 0] 25)) s a e b w1 → RdP R w s a e b w1 from fun a e b w1 h => h.from hR)
  go_enter Tryd.func49, Tryd.ntmps49
  go_upto_region 1 with fail
  generalize w.alloc (Obj.cells #[.int .i64 0, .int .i64 0, .string { data := #[] }, .slice none 0 0, .slice none 0 0] 25) = w0 at HH HRow HFROM ⊢
  by_cases c1 : preAt s a wTrue = true
  · have HG : Hid (wordG s a = .ok (leafV 1 1) (a + 4)) := Lib.hid (by unfold wordG; rw [if_pos c1])
    go_wp2_with fail
    refine (takes_yes R s ⟨#[116, 114, 117, 101]⟩ a 0 b w0 HH.out ha hs c1).mono ?_
    rintro e' w1 ⟨rfl, h1⟩
    have H1 := Lib.hid h1
    clear h1
    have HR9 := Lib.hid (kept_row H1.out HRow.out hQR)
    have z0 := HR9.out.cell (show 0 < 5 by decide)
    have z1 := HR9.out.cell (show 1 < 5 by decide)
    have z2 := HR9.out.cell (show 2 < 5 by decide)
    have z3 := HR9.out.cell (show 3 < 5 by decide)
    have z4 := HR9.out.cell (show 4 < 5 by decide)
    have g0 := HR9.out.frozen 0
    have g1 := HR9.out.frozen 1
    have g2 := HR9.out.frozen 2
    have g3 := HR9.out.frozen 3
    have g4 := HR9.out.frozen 4
    simp only [hdAt, Hd.cells, List.getD_cons_succ, List.getD_cons_zero] at z0 z1 z2 z3 z4
    go_wp2_with fail
    refine bodyPost_ret (v := .agg #[.int .i64 1, .int .i64 1, .string ByteArray.empty, .slice none 0 0, .slice none 0 0]) (by simp [results, Tryd.results49, go_sem, z0, z1, z2, z3, z4]; try rfl) rfl ?_
    exact VlR.leaf (j := a + 4) HG.out (HFROM.out _ _ _ _ H1.out) hR (Nat.le_refl _) (by decide) (by decide)
  have c1 : preAt s a wTrue = false := by simpa using c1
  go_wp2_with fail
  refine (takes_no R s ⟨#[116, 114, 117, 101]⟩ a 0 b w0 HH.out ha hs c1).mono ?_
  rintro e' w1 ⟨rfl, h1⟩
  have H1 := Lib.hid h1
  clear h1
  by_cases c2 : preAt s a wFalse = true
  · have HG : Hid (wordG s a = .ok (leafV 1 0) (a + 5)) := Lib.hid (by unfold wordG; rw [if_neg (by rw [c1]; decide), if_pos c2])
    go_wp2_with fail
    refine (takes_yes R s ⟨#[102, 97, 108, 115, 101]⟩ a 0 b w1 H1.out.1 ha hs c2).mono ?_
    rintro e' w2 ⟨rfl, h2⟩
    have H2 := Lib.hid (H1.out.trans h2)
    clear h2
    have HR9 := Lib.hid (kept_row H2.out HRow.out hQR)
    have z0 := HR9.out.cell (show 0 < 5 by decide)
    have z1 := HR9.out.cell (show 1 < 5 by decide)
    have z2 := HR9.out.cell (show 2 < 5 by decide)
    have z3 := HR9.out.cell (show 3 < 5 by decide)
    have z4 := HR9.out.cell (show 4 < 5 by decide)
    have g0 := HR9.out.frozen 0
    have g1 := HR9.out.frozen 1
    have g2 := HR9.out.frozen 2
    have g3 := HR9.out.frozen 3
    have g4 := HR9.out.frozen 4
    simp only [hdAt, Hd.cells, List.getD_cons_succ, List.getD_cons_zero] at z0 z1 z2 z3 z4
    go_wp2_with fail
    refine bodyPost_ret (v := .agg #[.int .i64 1, .int .i64 0, .string ByteArray.empty, .slice none 0 0, .slice none 0 0]) (by simp [results, Tryd.results49, go_sem, z0, z1, z2, z3, z4]; try rfl) rfl ?_
    exact VlR.leaf (j := a + 5) HG.out (HFROM.out _ _ _ _ H2.out) hR (Nat.le_refl _) (by decide) (by decide)
  have c2 : preAt s a wFalse = false := by simpa using c2
  go_wp2_with fail
  refine (takes_no R s ⟨#[102, 97, 108, 115, 101]⟩ a 0 b w1 H1.out.1 ha hs c2).mono ?_
  rintro e' w2 ⟨rfl, h2⟩
  have H2 := Lib.hid (H1.out.trans h2)
  clear h2
  by_cases c3 : preAt s a wNull = true
  · have HG : Hid (wordG s a = .ok (leafV 0 0) (a + 4)) := Lib.hid (by unfold wordG; rw [if_neg (by rw [c1]; decide), if_neg (by rw [c2]; decide), if_pos c3])
    go_wp2_with fail
    refine (takes_yes R s ⟨#[110, 117, 108, 108]⟩ a 0 b w2 H2.out.1 ha hs c3).mono ?_
    rintro e' w3 ⟨rfl, h3⟩
    have H3 := Lib.hid (H2.out.trans h3)
    clear h3
    have HR9 := Lib.hid (kept_row H3.out HRow.out hQR)
    have z0 := HR9.out.cell (show 0 < 5 by decide)
    have z1 := HR9.out.cell (show 1 < 5 by decide)
    have z2 := HR9.out.cell (show 2 < 5 by decide)
    have z3 := HR9.out.cell (show 3 < 5 by decide)
    have z4 := HR9.out.cell (show 4 < 5 by decide)
    have g0 := HR9.out.frozen 0
    have g1 := HR9.out.frozen 1
    have g2 := HR9.out.frozen 2
    have g3 := HR9.out.frozen 3
    have g4 := HR9.out.frozen 4
    simp only [hdAt, Hd.cells, List.getD_cons_succ, List.getD_cons_zero] at z0 z1 z2 z3 z4
    go_wp2_with fail
    refine bodyPost_ret (v := .agg #[.int .i64 0, .int .i64 0, .string ByteArray.empty, .slice none 0 0, .slice none 0 0]) (by simp [results, Tryd.results49, go_sem, z0, z1, z2, z3, z4]; try rfl) rfl ?_
    exact VlR.leaf (j := a + 4) HG.out (HFROM.out _ _ _ _ H3.out) hR (Nat.le_refl _) (by decide) (by decide)
  have c3 : preAt s a wNull = false := by simpa using c3
  have HG : Hid (wordG s a = .no 4 a) := Lib.hid (by unfold wordG; rw [if_neg (by rw [c1]; decide), if_neg (by rw [c2]; decide), if_neg (by rw [c3]; decide)])
  go_wp2_with fail
  refine (takes_no R s ⟨#[110, 117, 108, 108]⟩ a 0 b w2 H2.out.1 ha hs c3).mono ?_
  rintro e' w3 ⟨rfl, h3⟩
  have H3 := Lib.hid (H2.out.trans h3)
  have q1 := H3.out.1.c1
  clear h3
  go_wp2_with fail
  refine (fail_first R s a b a 4 w3 H3.out.1).mono ?_
  rintro e' w4 ⟨rfl, h4⟩
  have H4 := Lib.hid (H3.out.trans h4)
  clear h4
  have HR9 := Lib.hid (kept_row H4.out HRow.out hQR)
  have z0 := HR9.out.cell (show 0 < 5 by decide)
  have z1 := HR9.out.cell (show 1 < 5 by decide)
  have z2 := HR9.out.cell (show 2 < 5 by decide)
  have z3 := HR9.out.cell (show 3 < 5 by decide)
  have z4 := HR9.out.cell (show 4 < 5 by decide)
  have g0 := HR9.out.frozen 0
  have g1 := HR9.out.frozen 1
  have g2 := HR9.out.frozen 2
  have g3 := HR9.out.frozen 3
  have g4 := HR9.out.frozen 4
  simp only [hdAt, Hd.cells, List.getD_cons_succ, List.getD_cons_zero] at z0 z1 z2 z3 z4
  go_wp2_with fail
  refine bodyPost_ret (v := .agg #[.int .i64 0, .int .i64 0, .string ByteArray.empty, .slice none 0 0, .slice none 0 0]) (by simp [results, Tryd.results49, go_sem, z0, z1, z2, z3, z4]; try rfl) rfl ?_
  exact VlR.bad (u := ⟨0, 0, ByteArray.empty, none, 0, 0, none, 0, 0⟩) HG.out (by decide) ha (HFROM.out _ _ _ _ H4.out) hR (Nat.le_refl _)
end Go.Proofs.YtbinmhcjadkmgaaDoor

/- Values that are read, one after the other, into a row of one's own. -/
set_option linter.unusedVariables false
set_option linter.unusedSimpArgs false
namespace Go.Proofs.YtbinmhcjadkmgaaDoor
open Go.RowKit
theorem own_block {w w' : World} {base : Nat} {e : TypeId} {size : Nat} {v : Value} {n : Nat} {xs : List Value} (h : w.ownsRow base e size v n xs) (hb : ∀ g, v.ownBlock = some g → w'.heap[g]? = w.heap[g]?) : w'.ownsRow base e size v n xs := by
  obtain ⟨h1, h2⟩ := h
  refine ⟨h1, ?_⟩
  rcases h2 with h2 | ⟨g, cap, cur, a, b, c, d⟩
  · exact .inl h2
  · exact .inr ⟨g, cap, cur, a, b, by rw [hb g (by rw [a]; rfl)]; exact c, d⟩
theorem own_lo {w : World} {base : Nat} {e : TypeId} {size : Nat} {v : Value} {n : Nat} {xs : List Value} (h : w.ownsRow base e size v n xs) {g : Nat} (hg : v.ownBlock = some g) : base ≤ g ∧ g < w.heap.size := by
  rcases h.2 with ⟨rfl, _⟩ | ⟨g', cap, cur, a, b, c, d⟩
  · simp [Value.ownBlock] at hg
  · subst a
    simp [Value.ownBlock] at hg
    subst hg
    exact ⟨b, (Array.getElem?_eq_some_iff.1 c).1⟩
theorem flat_at {α : Type} (fn : α → List Value) (size : Nat) : ∀ (us : List α), (∀ u ∈ us, (fn u).length = size) → ∀ (i : Nat) u, us[i]? = some u → ∀ (j : Nat) c, (fn u)[j]? = some c → (us.flatMap fn)[i * size + j]? = some c
  | [], _, i, u, h, _, _, _ => by simp at h
  | x :: r, hs, i, u, h, j, c, hc => by
    rw [List.flatMap_cons]
    cases i with
    | zero =>
      simp at h
      subst h
      rw [List.getElem?_append_left (by have := (List.getElem?_eq_some_iff.1 hc).1; omega)]
      simpa using hc
    | succ i =>
      have hx : (fn x).length = size := hs x (by simp)
      have e : (i + 1) * size = i * size + size := by rw [Nat.add_mul]; omega
      rw [List.getElem?_append_right (by omega), hx, (by omega : (i + 1) * size + j - size = i * size + j)]
      exact flat_at fn size r (fun u hu => hs u (by simp [hu])) i u (by simpa using h) j c hc
theorem cells_len (u : Hd) : u.cells.length = 5 := rfl
theorem pcells_len (p : ByteArray × Hd) : (pcells p).length = 6 := rfl
theorem row_of_own {α : Type} {w : World} {base : Nat} {e : TypeId} {size : Nat} {A : Option Addr} {n c : Nat} {S : Nat → Prop} (fn : α → List Value) (us : List α) (hs : ∀ u, (fn u).length = size) (h : w.ownsRow base e size (.slice A n c) n (us.flatMap fn)) (hb : ∀ g, (Value.slice A n c).ownBlock = some g → S g) (h0 : us = [] ∨ 0 < size) :
    RowAt w S size A (us.map fn) := by
  intro hp
  rcases h.2 with ⟨hv, hn⟩ | ⟨g, cap, cur, hv, _, hh, hle, _, hsz, ht⟩
  · exfalso
    have hz := h.1
    rw [hn, Nat.zero_mul] at hz
    rcases h0 with rfl | h0
    · simp at hp
    · cases us with
      | nil => simp at hp
      | cons u us =>
        have h3 := hs u
        rw [List.flatMap_cons, List.length_append] at hz
        omega
  · have e : A = some ⟨g, 0, none⟩ := by injection hv
    subst e
    refine ⟨_, rfl, hb g rfl, fun i cc hi j u hu => ?_⟩
    rw [List.getElem?_map, Option.map_eq_some_iff] at hi
    obtain ⟨x, hx, rfl⟩ := hi
    exact h.cells rfl _ u (flat_at fn size us (fun u _ => hs u) i x hx j u hu)
/-- What there is so far: a variable's block Lb holds the row's slice; from lo on lie the row and the values; of what was there all but the blocks of X is as it was. -/
structure AccZ {α : Type} (fn : α → List Value) (hd : α → Hd) (ty : TypeId) (size : Nat) (tb : TypeId) (w1 : World) (R Lb : Nat) (X : Nat → Prop) (acc : List Va) (us : List α) (A : Option Addr) (n c : Nat) (w : World) : Prop where
  bel : Below R w1 w
  sz : w1.heap.size ≤ w.heap.size
  blk : ∀ k, k < w1.heap.size → ¬ X k → w.heap[k]? = w1.heap[k]?
  box : w.heap[Lb]? = some (.cells #[.slice A n c] tb (0, 0))
  own : w.ownsRow w1.heap.size ty size (.slice A n c) n (us.flatMap fn)
  len : us.length = n
  lenA : acc.length = n
  lies : ∀ (j : Nat) y u, acc[j]? = some y → us[j]? = some u → Lies w (fun b => w1.heap.size ≤ b ∧ (Value.slice A n c).ownBlock ≠ some b) y (hd u)
theorem AccZ.rd {α : Type} {fn : α → List Value} {hd : α → Hd} {ty : TypeId} {size : Nat} {tb : TypeId} {w1 w w' : World} {R Lb : Nat} {X : Nat → Prop} {acc : List Va} {us : List α} {A : Option Addr} {n c : Nat}
    (H : AccZ fn hd ty size tb w1 R Lb X acc us A n c w) (hX : ∀ k, k < w1.heap.size → k ≠ Lb → ¬ X k → k ≠ R) (hLR : Lb ≠ R) (hR : R < w1.heap.size) (hL : Lb < w1.heap.size) (hk : Kp R w w') : AccZ fn hd ty size tb w1 R Lb X acc us A n c w' := by
  have hs := H.sz
  have hs2 := hk.size
  refine ⟨H.bel.trans hk.bel, by omega, fun k h1 h2 => ?_, ?_, ?_, H.len, H.lenA, fun j y u hy hu => ?_⟩
  · by_cases e : k = Lb
    · subst e; rw [hk.block k hLR (by omega)]; exact H.blk k h1 h2
    · rw [hk.block k (hX k h1 e h2) (by omega)]; exact H.blk k h1 h2
  · rw [hk.block Lb hLR (by omega)]; exact H.box
  · exact own_block H.own fun g hg => hk.block g (by have := own_lo H.own hg; omega) (own_lo H.own hg).2
  · exact Lies.keep (fun p hp hl => World.cell?_of_block (hk.block p.block (by have := hp.1; omega) hl)) (fun b hb _ => hb) y (hd u) (H.lies j y u hy hu)
/-- One more. -/
theorem AccZ.add {α : Type} {fn : α → List Value} {hd : α → Hd} {ty : TypeId} {size : Nat} {tb : TypeId} {w1 w wF w9 : World} {R Lb : Nat} {X : Nat → Prop} {acc : List Va} {us : List α} {A : Option Addr} {n c g cap : Nat} {y : Va} {u : α}
    (H : AccZ fn hd ty size tb w1 R Lb X acc us A n c w) (hXL : X Lb) (hX : ∀ k, k < w1.heap.size → ¬ X k → k ≠ R) (hLR : Lb ≠ R) (hR : R < w1.heap.size) (hL : Lb < w1.heap.size) (hk : Kp R w wF)
    (hy : Lies wF (fun b => w.heap.size ≤ b) y (hd u)) (b9 : Below R wF w9) (s9 : wF.heap.size ≤ w9.heap.size) (k9 : ∀ k, k < wF.heap.size → k ≠ Lb → k ≠ g → (Value.slice A n c).ownBlock ≠ some k → w9.heap[k]? = wF.heap[k]?)
    (box9 : w9.heap[Lb]? = some (.cells #[.slice (some ⟨g, 0, none⟩) (n + 1) cap] tb (0, 0))) (own9 : w9.ownsRow w1.heap.size ty size (.slice (some ⟨g, 0, none⟩) (n + 1) cap) (n + 1) (us.flatMap fn ++ fn u))
    (hat : (Value.slice A n c).ownBlock = some g ∨ wF.heap.size ≤ g) : AccZ fn hd ty size tb w1 R Lb X (acc ++ [y]) (us ++ [u]) (some ⟨g, 0, none⟩) (n + 1) cap w9 := by
  have hs := H.sz
  have hs2 := hk.size
  have hg1 : w1.heap.size ≤ g := (own_lo own9 rfl).1
  have hgb : ∀ b, b < w.heap.size → (Value.slice A n c).ownBlock ≠ some b → b ≠ g := fun b h1 h2 e => by
    rcases hat with h | h
    · exact h2 (by rw [h, e])
    · omega
  have hgn : ∀ b, w.heap.size ≤ b → b < wF.heap.size → b ≠ g := fun b h1 h2 e => by
    rcases hat with h | h
    · have := (own_lo H.own h).2; omega
    · omega
  refine ⟨(H.bel.trans hk.bel).trans b9, by omega, fun k h1 h2 => ?_, box9, ?_, by simp [H.len], by simp [H.lenA], fun j y' u' hy' hu' => ?_⟩
  · have hkL : k ≠ Lb := fun e => h2 (e ▸ hXL)
    rw [k9 k (by omega) hkL (by omega) (fun e => by have := (own_lo H.own e).1; omega), hk.block k (hX k h1 h2) (by omega)]; exact H.blk k h1 h2
  · rw [List.flatMap_append]; simpa using own9
  · by_cases e : j < n
    · rw [List.getElem?_append_left (by rw [H.lenA]; exact e)] at hy'
      rw [List.getElem?_append_left (by rw [H.len]; exact e)] at hu'
      refine Lies.keep (fun p hp hl => World.cell?_of_block ?_) (fun b hb hl => ⟨hb.1, fun e2 => ?_⟩) y' (hd u') (H.lies j y' u' hy' hu')
      · rw [k9 p.block (by omega) (by have := hp.1; omega) (hgb _ hl hp.2) hp.2, hk.block p.block (by have := hp.1; omega) hl]
      · injection e2 with e2; exact hgb b hl hb.2 e2.symm
    · have hj : j < (acc ++ [y]).length := (List.getElem?_eq_some_iff.1 hy').1
      simp [H.lenA] at hj
      obtain rfl : j = n := by omega
      rw [List.getElem?_append_right (by rw [H.lenA]; exact Nat.le_refl _), H.lenA] at hy'
      rw [List.getElem?_append_right (by rw [H.len]; exact Nat.le_refl _), H.len] at hu'
      simp at hy' hu'
      subst hy' hu'
      refine Lies.keep (fun p hp hl => World.cell?_of_block (k9 p.block hl (by omega) (hgn _ hp hl) (fun e => by have := (own_lo H.own e).2; omega))) (fun b hb hl => ⟨by omega, fun e2 => ?_⟩) y (hd u) hy
      injection e2 with e2
      exact hgn b hb hl e2.symm
theorem own_capJ {w : World} {base : Nat} {e : TypeId} {size : Nat} {A : Option Addr} {n c : Nat} {xs : List Value} (h : w.ownsRow base e size (.slice A n c) n xs) : n ≤ c := by
  rcases h.2 with ⟨e, h0⟩ | ⟨g, cap, cur, hv, _, _, hle, _⟩
  · omega
  · injection hv with _ _ h3; omega
/-- The list of all. -/
theorem AccZ.list {tb : TypeId} {w1 w wf : World} {R Lb : Nat} {X : Nat → Prop} {acc : List Va} {us : List Hd} {A : Option Addr} {n c B : Nat} (H : AccZ Hd.cells id 25 5 tb w1 R Lb X acc us A n c w) (hm : acc.length ≤ maxLen) (hB : B ≤ w1.heap.size)
    (hblk : ∀ b, b < w.heap.size → w1.heap.size ≤ b → wf.heap[b]? = w.heap[b]?) : Lies wf (fun b => B ≤ b) (.mk 4 0 ByteArray.empty acc [] []) ⟨4, 0, ByteArray.empty, A, n, c, none, 0, 0⟩ := by
  have hl := H.lenA
  subst hl
  have cap := own_capJ H.own
  unfold Lies
  refine ⟨⟨rfl, rfl, rfl, rfl, rfl, rfl⟩, ⟨by decide, by decide, by decide, by simp, hm, by decide, cap, Nat.le_refl _⟩, ⟨us, ?_, LiesL_mk H.len fun i y u hy hu => ?_⟩, ⟨[], fun h => by simp at h, by unfold LiesL; rfl⟩⟩
  · have own2 : wf.ownsRow w1.heap.size 25 5 (.slice A acc.length c) acc.length (us.flatMap Hd.cells) := own_block H.own fun g hg => hblk g (own_lo H.own hg).2 (own_lo H.own hg).1
    exact row_of_own Hd.cells us cells_len own2 (fun g hg => by have := (own_lo own2 hg).1; omega) (.inr (by decide))
  · exact Lies.keep (fun p hp hlt => World.cell?_of_block (hblk p.block hlt hp.1)) (fun b hb _ => by have := hb.1; omega) y u (H.lies i y u hy hu)
/-- The object of all. -/
theorem AccZ.obj {tb : TypeId} {w1 w wf : World} {R Lb : Nat} {X : Nat → Prop} {acc : List Va} {ks : List ByteArray} {us : List (ByteArray × Hd)} {A : Option Addr} {n c B : Nat} (H : AccZ pcells Prod.snd 48 6 tb w1 R Lb X acc us A n c w) (hus : us.map Prod.fst = ks) (hkm : ∀ x ∈ ks, x.size ≤ maxLen) (hm : acc.length ≤ maxLen) (hB : B ≤ w1.heap.size)
    (hblk : ∀ b, b < w.heap.size → w1.heap.size ≤ b → wf.heap[b]? = w.heap[b]?) : Lies wf (fun b => B ≤ b) (.mk 5 0 ByteArray.empty [] ks acc) ⟨5, 0, ByteArray.empty, none, 0, 0, A, n, c⟩ := by
  have hl := H.lenA
  subst hl hus
  have cap := own_capJ H.own
  have zip_back : ∀ us : List (ByteArray × Hd), (us.map Prod.fst).zip (us.map Prod.snd) = us := by
    intro us
    induction us with
    | nil => rfl
    | cons a r ih => obtain ⟨a, b⟩ := a; simp [ih]
  unfold Lies
  refine ⟨⟨rfl, rfl, rfl, rfl, rfl, by simp [H.len]⟩, ⟨by decide, by decide, by decide, hkm, by decide, hm, Nat.le_refl _, cap⟩, ⟨[], fun h => by simp at h, by unfold LiesL; rfl⟩, ⟨us.map Prod.snd, ?_, LiesL_mk (by simp [H.len]) fun i y u hy hu => ?_⟩⟩
  · have own2 : wf.ownsRow w1.heap.size 48 6 (.slice A acc.length c) acc.length (us.flatMap pcells) := own_block H.own fun g hg => hblk g (own_lo H.own hg).2 (own_lo H.own hg).1
    rw [zip_back]
    exact row_of_own pcells us pcells_len own2 (fun g hg => by have := (own_lo own2 hg).1; omega) (.inr (by decide))
  · rw [List.getElem?_map, Option.map_eq_some_iff] at hu
    obtain ⟨q, hq, rfl⟩ := hu
    exact Lies.keep (fun p hp hlt => World.cell?_of_block (hblk p.block hlt hp.1)) (fun b hb _ => by have := hb.1; omega) y q.2 (H.lies i y q hy hq)
end Go.Proofs.YtbinmhcjadkmgaaDoor

/- JSON, read: what lies between two signs, one after the other; plain. -/
set_option linter.unusedVariables false
set_option linter.unusedSimpArgs false
namespace Go.Proofs.YtbinmhcjadkmgaaDoor
open Go.RowKit
/-- One of them: what there is then and the place behind it, or an error and its place. -/
abbrev Stp (σ : Type) := σ → Nat → Sum (σ × Nat) (Int × Nat)
def loopG {σ : Type} (step : Stp σ) (s en : ByteArray) : Nat → Nat → σ → Sum (σ × Nat) (Int × Nat)
  | 0, i, _ => .inr (4, i)
  | f + 1, i, x => match step x i with
    | .inr q => .inr q
    | .inl (y, j) => if sgn s j sComma then loopG step s en f (blk s j + 1) y else if sgn s j en then .inl (y, blk s j + 1) else .inr (4, blk s j)
/-- All of them, the beginning's sign standing at p. -/
def memG {σ : Type} (step : Stp σ) (s en : ByteArray) (p : Nat) (x : σ) : Sum (σ × Nat) (Int × Nat) :=
  if sgn s (p + 1) en then .inl (x, blk s (p + 1) + 1) else loopG step s en (s.size + 1) (blk s (p + 1)) x
def stepL (vl : Nat → Got) : Stp (List Va) := fun acc i => match vl i with
  | .no e b => .inr (e, b)
  | .ok x j => .inl (acc ++ [x], j)
abbrev keyB (s : ByteArray) (p : Nat) : ByteArray := ⟨(uq s p).1.toArray⟩
def stepO (vl : Nat → Got) (s : ByteArray) : Stp (List ByteArray × List Va) := fun x i =>
  if (uq s (blk s i)).2.2 ≠ 0 then .inr (((uq s (blk s i)).2.2 : Nat), blk s i + (uq s (blk s i)).2.1)
  else if hasK x.1 (keyB s (blk s i)) then .inr (7, blk s i)
  else if sgn s (blk s i + (uq s (blk s i)).2.1) sColon then
    (match vl (blk s (blk s i + (uq s (blk s i)).2.1) + 1) with
    | .no e b => .inr (e, b)
    | .ok v j => .inl ((x.1 ++ [keyB s (blk s i)], x.2 ++ [v]), j))
  else .inr (4, blk s (blk s i + (uq s (blk s i)).2.1))
def gotL : Sum (List Va × Nat) (Int × Nat) → Got
  | .inl (l, j) => .ok (.mk 4 0 ByteArray.empty l [] []) j
  | .inr (e, b) => .no e b
def gotO : Sum ((List ByteArray × List Va) × Nat) (Int × Nat) → Got
  | .inl (x, j) => .ok (.mk 5 0 ByteArray.empty [] x.1 x.2) j
  | .inr (e, b) => .no e b
theorem loop_elems (vl : Nat → Got) (s : ByteArray) : ∀ f i acc, elemsG vl s f i acc = gotL (loopG (stepL vl) s sClL f i acc)
  | 0, i, acc => rfl
  | f + 1, i, acc => by
    unfold elemsG loopG stepL
    cases vl i with
    | no e b => rfl
    | ok x j =>
      simp only
      split
      · exact loop_elems vl s f _ _
      split <;> rfl
theorem loop_mems (vl : Nat → Got) (s : ByteArray) : ∀ f i ks acc, memsG vl s f i ks acc = gotO (loopG (stepO vl s) s sClO f i (ks, acc))
  | 0, i, ks, acc => rfl
  | f + 1, i, ks, acc => by
    unfold memsG loopG stepO
    simp only
    split
    · rfl
    split
    · rfl
    split
    · cases vl (blk s (blk s i + (uq s (blk s i)).2.1) + 1) with
      | no e b => rfl
      | ok x j =>
        simp only
        split
        · exact loop_mems vl s f _ _ _
        split <;> rfl
    · rfl
theorem list_mem (vl : Nat → Got) (s : ByteArray) (p : Nat) : listG vl s p = gotL (memG (stepL vl) s sClL p []) := by
  unfold listG memG
  split
  · rfl
  · exact loop_elems vl s _ _ _
theorem obj_mem (vl : Nat → Got) (s : ByteArray) (p : Nat) : objG vl s p = gotO (memG (stepO vl s) s sClO p ([], [])) := by
  unfold objG memG
  split
  · rfl
  · exact loop_mems vl s _ _ _ _
/-- It gets on, within the text. -/
def SIn {σ : Type} (s : ByteArray) (i : Nat) : Sum (σ × Nat) (Int × Nat) → Prop
  | .inl (_, j) => i < j ∧ j ≤ s.size
  | .inr (e, b) => e ≠ 0 ∧ b ≤ s.size
theorem stepL_in {vl : Nat → Got} {s : ByteArray} (hv : ∀ i, i ≤ s.size → GIn s i (vl i)) (acc : List Va) (i : Nat) (h : i ≤ s.size) : SIn s i (stepL vl acc i) := by
  have h1 := hv i h
  unfold stepL
  cases hg : vl i with
  | no e b => rw [hg] at h1; exact h1
  | ok x j => rw [hg] at h1; exact h1
theorem stepO_in {vl : Nat → Got} {s : ByteArray} (hv : ∀ i, i ≤ s.size → GIn s i (vl i)) (x : List ByteArray × List Va) (i : Nat) (h : i ≤ s.size) : SIn s i (stepO vl s x i) := by
  have hb0 := blk_ge s i
  have hq := uq_in (blk_le h)
  unfold stepO
  by_cases q0 : (uq s (blk s i)).2.2 ≠ 0
  · rw [if_pos q0]; exact ⟨by omega, hq.1⟩
  rw [if_neg q0]
  by_cases q1 : hasK x.1 (keyB s (blk s i)) = true
  · rw [if_pos q1]; exact ⟨by decide, blk_le h⟩
  rw [if_neg q1]
  by_cases q2 : sgn s (blk s i + (uq s (blk s i)).2.1) sColon = true
  · rw [if_pos q2]
    have hc : blk s (blk s i + (uq s (blk s i)).2.1) + 1 ≤ s.size := sgn_in q2 hq.1
    have hb1 := blk_ge s (blk s i + (uq s (blk s i)).2.1)
    have h1 := hv _ hc
    cases hg : vl (blk s (blk s i + (uq s (blk s i)).2.1) + 1) with
    | no e b => rw [hg] at h1; exact h1
    | ok v j => rw [hg] at h1; exact ⟨by have := h1.1; omega, h1.2⟩
  · rw [if_neg q2]; exact ⟨by decide, blk_le hq.1⟩
end Go.Proofs.YtbinmhcjadkmgaaDoor

/- cascade/json's reader: the loop between two signs. -/
set_option linter.unusedVariables false
set_option linter.unusedSimpArgs false
namespace Go.Proofs.YtbinmhcjadkmgaaDoor
open Go.RowKit
/-- What one of them, or all, leave: what there is then, or an error. -/
def OneP {σ : Type} (R : Nat) (s : ByteArray) (b : Int) (Inv : World → σ → Prop) (Bad : World → Prop) : Sum (σ × Nat) (Int × Nat) → World → Prop
  | .inl (y, j), w => Rdr w R s (j : Nat) 0 b ∧ Inv w y
  | .inr (er, bd), w => er ≠ 0 ∧ Bad w ∧ ∃ a' : Nat, a' ≤ s.size ∧ Rdr w R s a' er (bd : Nat)
def errJ (R : Nat) (w : World) : Int := match w.cell? ⟨R, 2, none⟩ with
  | some (.int _ e) => e
  | _ => 0
def mesJ (R : Nat) (s : ByteArray) (w : World) : Nat := if errJ R w = 0 then s.size + 2 - rdAt R w else 0
theorem mes_ok {R j : Nat} {s : ByteArray} {b : Int} {w : World} (h : Rdr w R s (j : Nat) 0 b) : mesJ R s w = s.size + 2 - j := by
  unfold mesJ errJ
  rw [h.c2]
  simp [h.rdAt]
theorem mes_bad {R : Nat} {s : ByteArray} {a e b : Int} {w : World} (h : Rdr w R s a e b) (he : e ≠ 0) : mesJ R s w = 0 := by
  unfold mesJ errJ
  rw [h.c2]
  simp [he]
def contG {σ : Type} (step : Stp σ) (s en : ByteArray) (f j : Nat) (y : σ) : Sum (σ × Nat) (Int × Nat) :=
  if sgn s j sComma then loopG step s en f (blk s j + 1) y else if sgn s j en then .inl (y, blk s j + 1) else .inr (4, blk s j)
theorem loop_cont {σ : Type} {step : Stp σ} {s en : ByteArray} {f i : Nat} {x : σ} : loopG step s en (f + 1) i x = match step x i with
    | .inr q => .inr q
    | .inl (y, j) => contG step s en f j y := by
  unfold contG
  conv => lhs; unfold loopG
  all_goals (rcases step x i with ⟨y, j⟩ | q <;> rfl)
/-- Between two of them. -/
def LoopS {σ : Type} (len : σ → Nat) (step : Stp σ) (s en : ByteArray) (R : Nat) (b : Int) (Inv : World → σ → Prop) (Bad : World → Prop) (G : Sum (σ × Nat) (Int × Nat)) (w : World) : Prop :=
  (∃ (f j : Nat) (y : σ), Rdr w R s (j : Nat) 0 b ∧ Inv w y ∧ j ≤ s.size ∧ s.size < j + f ∧ len y ≤ j ∧ contG step s en f j y = G) ∨
  (∃ (er : Int) (bd a' : Nat), er ≠ 0 ∧ Bad w ∧ a' ≤ s.size ∧ Rdr w R s (a' : Nat) er (bd : Nat) ∧ G = .inr (er, bd))
theorem loop_at {σ : Type} {len : σ → Nat} {step : Stp σ} {s en : ByteArray} {R : Nat} {b : Int} {Inv : World → σ → Prop} {Bad : World → Prop} {G : Sum (σ × Nat) (Int × Nat)} {f i : Nat} {x : σ} {w : World} (hin : ∀ y i, i ≤ s.size → SIn s i (step y i)) (hG : G = loopG step s en (f + 1) i x)
    (hi : i ≤ s.size) (hf : s.size < i + (f + 1)) (hlen : ∀ y i z j, step y i = .inl (z, j) → len z ≤ len y + 1) (hx : len x ≤ i) (h : OneP R s b Inv Bad (step x i) w) : LoopS len step s en R b Inv Bad G w ∧ (mesJ R s w < s.size + 2 - i) := by
  have h1 := hin x i hi
  rw [loop_cont] at hG
  cases hq : step x i with
  | inl q =>
    obtain ⟨y, j⟩ := q
    rw [hq] at h h1 hG
    obtain ⟨ha, hb⟩ := h
    obtain ⟨hij, hjs⟩ := h1
    have hl := hlen x i y j hq
    exact ⟨.inl ⟨f, j, y, ha, hb, hjs, by omega, by omega, hG.symm⟩, by rw [mes_ok ha]; omega⟩
  | inr q =>
    obtain ⟨er, bd⟩ := q
    rw [hq] at h h1 hG
    obtain ⟨ha, hb, a', hc, hd⟩ := h
    exact ⟨.inr ⟨er, bd, a', ha, hb, hc, hd, hG⟩, by rw [mes_bad hd ha]; omega⟩
theorem loop_start {σ : Type} {len : σ → Nat} {step : Stp σ} {s en : ByteArray} {R : Nat} {b : Int} {Inv : World → σ → Prop} {Bad : World → Prop} {G : Sum (σ × Nat) (Int × Nat)} {i : Nat} {x : σ} {w : World} (hin : ∀ y i, i ≤ s.size → SIn s i (step y i)) (hG : G = loopG step s en (s.size + 1) i x)
    (hi : i ≤ s.size) (hlen : ∀ y i z j, step y i = .inl (z, j) → len z ≤ len y + 1) (hx : len x ≤ i) (h : OneP R s b Inv Bad (step x i) w) : LoopS len step s en R b Inv Bad G w := (loop_at hin hG hi (by omega) hlen hx h).1
theorem loop_yes {σ : Type} {step : Stp σ} {s en : ByteArray} {G : Sum (σ × Nat) (Int × Nat)} {f j : Nat} {y : σ} (hc : sgn s j sComma = true) (hG : contG step s en f j y = G) : G = loopG step s en f (blk s j + 1) y := by
  rw [← hG]; unfold contG; rw [if_pos hc]
theorem loop_no {σ : Type} {step : Stp σ} {s en : ByteArray} {G : Sum (σ × Nat) (Int × Nat)} {f j : Nat} {y : σ} (hc : sgn s j sComma = false) (hG : contG step s en f j y = G) : (if sgn s j en then Sum.inl (y, blk s j + 1) else .inr (4, blk s j)) = G := by
  rw [← hG]; unfold contG; rw [hc]; rfl
theorem loop_next {σ : Type} {len : σ → Nat} {step : Stp σ} {s en : ByteArray} {R : Nat} {b : Int} {Inv : World → σ → Prop} {Bad : World → Prop} {G : Sum (σ × Nat) (Int × Nat)} {f j : Nat} {y : σ} {w : World} (hin : ∀ y i, i ≤ s.size → SIn s i (step y i)) (hG : G = loopG step s en f (blk s j + 1) y)
    (hf : s.size < j + f) (hge : j ≤ blk s j) (hi : blk s j + 1 ≤ s.size) (hlen : ∀ y i z j, step y i = .inl (z, j) → len z ≤ len y + 1) (hx : len y ≤ j) (h : OneP R s b Inv Bad (step y (blk s j + 1)) w) : LoopS len step s en R b Inv Bad G w ∧ (mesJ R s w < s.size + 2 - j) := by
  cases f with
  | zero => omega
  | succ f =>
    obtain ⟨h1, h2⟩ := loop_at hin hG hi (by omega) hlen (by omega) h
    exact ⟨h1, by omega⟩
end Go.Proofs.YtbinmhcjadkmgaaDoor

/- Regions that draw their order and end in a store of the very cell that they load: the loads are taken first, and what they read need hold till that store alone. -/
set_option linter.unusedVariables false
namespace Go.Proofs.YtbinmhcjadkmgaaDoor
section
variable {P : Program} {ops : Array Oper} {Q : Exit → Act → World → Prop} {md : Region.Mode} {S : World → Prop}
/-- Whatever order is picked from here on; S holds behind each operation as long as number d hasn't come up. -/
def wpAnyE (P : Program) (md : Region.Mode) (ops : Array Oper) (Q : Exit → Act → World → Prop) (S : World → Prop) (d : Nat) : Nat → Array Bool → Act → World → Prop
  | 0, listed, a, w => Region.ready md ops listed = [] ∧ Q .normal a w
  | fuel + 1, listed, a, w =>
    (Region.ready md ops listed = [] → Q .normal a w) ∧
    ∀ i ∈ Region.ready md ops listed, wpOp P ops Q i (fun a' w' => ((listed.setIfInBounds i true).getD d true = false → S w') ∧ wpAnyE P md ops Q S d fuel (listed.setIfInBounds i true) a' w') a w
theorem wpAny_of_E {d : Nat} : ∀ (fuel : Nat) (listed : Array Bool) (a : Act) (w : World), wpAnyE P md ops Q S d fuel listed a w → wpAny P md ops Q fuel listed a w
  | 0, _, _, _, h => h
  | fuel + 1, _, _, _, h => ⟨h.1, fun i hi => wpOp_mono (fun a' w' h' => wpAny_of_E fuel _ a' w' h'.2) (h.2 i hi)⟩
theorem wpAnyE_first {i d : Nat} {oi od : Oper} {v : Value} (hi : ops[i]? = some oi) (hd : ops[d]? = some od) (hwait : ∃ e ∈ od.after, Region.binds md e = true ∧ e.on = i) (hid : i ≠ d)
    (hsel : ∀ (j : Nat) (o : Oper) cs b, ops[j]? = some o → o.op ≠ .select cs b) (hQ : ∀ c a w, Q (.panic c) (a.put oi.dst v) w → Q (.panic c) a w) :
    ∀ (fuel : Nat) (listed : Array Bool) (a : Act) (w : World),
      (∀ j oj, ops[j]? = some oj → j ≠ i → listed.getD j true = false → (∀ e ∈ oj.after, Region.binds md e = true → e.on ≠ i) → oi.apart ops oj = true) →
      listed.getD d true = false → i ∈ Region.ready md ops listed → YieldsIf P ops S oi v a → S w →
      wpAnyE P md ops Q S d fuel (listed.setIfInBounds i true) (a.put oi.dst v) w → wpAnyE P md ops Q S d (fuel + 1) listed a w := by
  intro fuel
  induction fuel with
  | zero =>
    intro listed a w _ hld hr hy hS H
    refine ⟨fun h => (by rw [h] at hr; cases hr), fun j hj => ?_⟩
    by_cases hji : j = i
    · subst hji; exact hy.wpOp hi hS ⟨fun _ => hS, H⟩
    · have := ready_mono hj hji
      rw [H.1] at this
      cases this
  | succ fuel ih =>
    intro listed a w hfree hld hr hy hS H
    refine ⟨fun h => (by rw [h] at hr; cases hr), fun j hj => ?_⟩
    by_cases hji : j = i
    · subst hji; exact hy.wpOp hi hS ⟨fun _ => hS, H⟩
    · have h1 := H.2 j (ready_mono hj hji)
      obtain ⟨hjun, oj, hoj, hall⟩ := mem_ready.1 hj
      have hnot : ∀ e ∈ oj.after, Region.binds md e = true → e.on ≠ i := fun e he hb heq => by
        have h1 := hall e he hb
        have h0 := (mem_ready.1 hr).1
        rw [heq] at h1
        rcases Nat.lt_or_ge i listed.size with h' | h'
        · simp [h'] at h0 h1; rw [h0] at h1; cases h1
        · simp [Array.getElem?_eq_none h'] at h1
      have hjd : j ≠ d := fun e => by
        subst e
        rw [hd] at hoj
        obtain ⟨e, he, hb, heq⟩ := hwait
        exact hnot e (Option.some.inj hoj ▸ he) hb heq
      have h2 := wpOp_putIf hoj (hfree j oj hoj hji hjun hnot) (fun cs b => hsel i oi cs b hi) (fun cs b => hsel j oj cs b hoj) hQ hy h1
      have hfree' : ∀ k ok, ops[k]? = some ok → k ≠ i → (listed.setIfInBounds j true).getD k true = false →
          (∀ e ∈ ok.after, Region.binds md e = true → e.on ≠ i) → oi.apart ops ok = true := fun k ok hk hki hun hno => by
        refine hfree k ok hk hki ?_ hno
        by_cases hjk : j = k
        · subst hjk; exact hjun
        · rw [getD_set_ne true hjk] at hun; exact hun
      have hld' : (listed.setIfInBounds j true).getD d true = false := by rw [getD_set_ne true hjd]; exact hld
      have hldi : ((listed.setIfInBounds i true).setIfInBounds j true).getD d true = false := by rw [getD_set_ne true hjd, getD_set_ne true hid]; exact hld
      refine wpOp_mono (fun a' w' h3 => ⟨fun _ => h3.2.1 hldi, ih (listed.setIfInBounds j true) a' w' hfree' hld' (ready_mono hr (Ne.symm hji)) h3.1 (h3.2.1 hldi) ?_⟩) h2
      rw [Array.setIfInBounds_comm _ _ hji]
      exact h3.2.2
/-- Take number i first; number d, the store, waits for it. -/
theorem wpAnyE_take {i d : Nat} {oi od : Oper} {v : Value} {fuel : Nat} {listed : Array Bool} {a : Act} {w : World} (hi : ops[i]? = some oi) (hd : ops[d]? = some od)
    (hw : (od.after.any fun e => Region.binds md e && e.on == i) = true) (hid : i ≠ d) (hs : Region.noSelect ops = true) (hf : Region.free md ops listed i = true) (hld : listed.getD d true = false) (hr : (Region.ready md ops listed).contains i = true)
    (hQ : ∀ c a w, Q (.panic c) (a.put oi.dst v) w → Q (.panic c) a w) (hy : YieldsIf P ops S oi v a) (hS : S w)
    (h : wpAnyE P md ops Q S d fuel (listed.setIfInBounds i true) (a.put oi.dst v) w) : wpAnyE P md ops Q S d (fuel + 1) listed a w := by
  have hw' : ∃ e ∈ od.after, Region.binds md e = true ∧ e.on = i := by
    obtain ⟨k, hk, e⟩ := Array.any_eq_true.1 hw
    exact ⟨od.after[k], Array.getElem_mem hk, by simp at e; exact e⟩
  exact wpAnyE_first hi hd hw' hid (Region.noSelect_spec hs) hQ fuel listed a w (Region.free_spec hi hf) hld (by simpa using hr) hy hS h
/-- What yields its value in whatever world may be taken first, before the store or behind it. -/
theorem wpAnyE_firstP {i d : Nat} {oi : Oper} {v : Value} (hi : ops[i]? = some oi) (hid : i ≠ d)
    (hsel : ∀ (j : Nat) (o : Oper) cs b, ops[j]? = some o → o.op ≠ .select cs b) (hQ : ∀ c a w, Q (.panic c) (a.put oi.dst v) w → Q (.panic c) a w) :
    ∀ (fuel : Nat) (listed : Array Bool) (a : Act) (w : World),
      (∀ j oj, ops[j]? = some oj → j ≠ i → listed.getD j true = false → (∀ e ∈ oj.after, Region.binds md e = true → e.on ≠ i) → oi.apart ops oj = true) →
      i ∈ Region.ready md ops listed → YieldsIf P ops (fun _ => True) oi v a → (listed.getD d true = false → S w) →
      wpAnyE P md ops Q S d fuel (listed.setIfInBounds i true) (a.put oi.dst v) w → wpAnyE P md ops Q S d (fuel + 1) listed a w := by
  intro fuel
  have put_d : ∀ (l : Array Bool), (l.setIfInBounds i true).getD d true = l.getD d true := fun l => getD_set_ne true hid
  induction fuel with
  | zero =>
    intro listed a w _ hr hy hS H
    refine ⟨fun h => (by rw [h] at hr; cases hr), fun j hj => ?_⟩
    by_cases hji : j = i
    · subst hji; exact hy.wpOp hi trivial ⟨fun h => hS (by rw [put_d] at h; exact h), H⟩
    · have := ready_mono hj hji
      rw [H.1] at this
      cases this
  | succ fuel ih =>
    intro listed a w hfree hr hy hS H
    refine ⟨fun h => (by rw [h] at hr; cases hr), fun j hj => ?_⟩
    by_cases hji : j = i
    · subst hji; exact hy.wpOp hi trivial ⟨fun h => hS (by rw [put_d] at h; exact h), H⟩
    · have h1 := H.2 j (ready_mono hj hji)
      obtain ⟨hjun, oj, hoj, hall⟩ := mem_ready.1 hj
      have hnot : ∀ e ∈ oj.after, Region.binds md e = true → e.on ≠ i := fun e he hb heq => by
        have h1 := hall e he hb
        have h0 := (mem_ready.1 hr).1
        rw [heq] at h1
        rcases Nat.lt_or_ge i listed.size with h' | h'
        · simp [h'] at h0 h1; rw [h0] at h1; cases h1
        · simp [Array.getElem?_eq_none h'] at h1
      have h2 := wpOp_putIf hoj (hfree j oj hoj hji hjun hnot) (fun cs b => hsel i oi cs b hi) (fun cs b => hsel j oj cs b hoj) hQ hy h1
      have hfree' : ∀ k ok, ops[k]? = some ok → k ≠ i → (listed.setIfInBounds j true).getD k true = false →
          (∀ e ∈ ok.after, Region.binds md e = true → e.on ≠ i) → oi.apart ops ok = true := fun k ok hk hki hun hno => by
        refine hfree k ok hk hki ?_ hno
        by_cases hjk : j = k
        · subst hjk; exact hjun
        · rw [getD_set_ne true hjk] at hun; exact hun
      have hcomm : (listed.setIfInBounds i true).setIfInBounds j true = (listed.setIfInBounds j true).setIfInBounds i true := Array.setIfInBounds_comm _ _ (Ne.symm hji)
      have hSj : ∀ w', (((listed.setIfInBounds i true).setIfInBounds j true).getD d true = false → S w') → (listed.setIfInBounds j true).getD d true = false → S w' := fun w' h hl => h (by rw [hcomm, put_d]; exact hl)
      refine wpOp_mono (fun a' w' h3 => ⟨hSj w' h3.2.1, ih (listed.setIfInBounds j true) a' w' hfree' (ready_mono hr (Ne.symm hji)) h3.1 (hSj w' h3.2.1) ?_⟩) h2
      rw [← hcomm]
      exact h3.2.2
theorem wpAnyE_takeP {i d : Nat} {oi : Oper} {v : Value} {fuel : Nat} {listed : Array Bool} {a : Act} {w : World} (hi : ops[i]? = some oi) (hid : i ≠ d) (hs : Region.noSelect ops = true) (hf : Region.free md ops listed i = true) (hr : (Region.ready md ops listed).contains i = true)
    (hQ : ∀ c a w, Q (.panic c) (a.put oi.dst v) w → Q (.panic c) a w) (hy : YieldsIf P ops (fun _ => True) oi v a) (hS : S w)
    (h : wpAnyE P md ops Q S d fuel (listed.setIfInBounds i true) (a.put oi.dst v) w) : wpAnyE P md ops Q S d (fuel + 1) listed a w :=
  wpAnyE_firstP hi hid (Region.noSelect_spec hs) hQ fuel listed a w (Region.free_spec hi hf) (by simpa using hr) hy (fun _ => hS) h
/-- Those that may come up, one after the other. -/
def AllE (P : Program) (md : Region.Mode) (ops : Array Oper) (Q : Exit → Act → World → Prop) (S : World → Prop) (d fuel : Nat) (listed : Array Bool) (a : Act) (w : World) (rs : List Nat) : Prop :=
  ∀ i ∈ rs, wpOp P ops Q i (fun a' w' => ((listed.setIfInBounds i true).getD d true = false → S w') ∧ wpAnyE P md ops Q S d fuel (listed.setIfInBounds i true) a' w') a w
theorem AllE.nil {d fuel : Nat} {listed : Array Bool} {a : Act} {w : World} : AllE P md ops Q S d fuel listed a w [] := fun _ h => by cases h
theorem AllE.cons {d fuel : Nat} {listed : Array Bool} {a : Act} {w : World} {i : Nat} {o : Oper} {rs : List Nat} (ho : ops[i]? = some o)
    (h : ∀ K' : Act → World → Prop, Shut (∀ a w, ((listed.setIfInBounds i true).getD d true = false → S w) → wpAnyE P md ops Q S d fuel (listed.setIfInBounds i true) a w → K' a w) → if Region.wanted o (yielded ops a.tmps) = true then Oper.wp P o a w K' Q else K' (a.put o.dst undef) w)
    (hs : AllE P md ops Q S d fuel listed a w rs) : AllE P md ops Q S d fuel listed a w (i :: rs) := fun j hj => by
  rcases List.mem_cons.1 hj with rfl | hj
  · exact wpOp_step ho (fun K' hK => h K' (fun a w hS hW => hK a w ⟨hS, hW⟩))
  · exact hs j hj
theorem wpAnyE_all {d : Nat} {rs : List Nat} {fuel : Nat} {listed : Array Bool} {a : Act} {w : World} (hr : Region.ready md ops listed = rs) (hne : rs ≠ [])
    (h : AllE P md ops Q S d fuel listed a w rs) : wpAnyE P md ops Q S d (fuel + 1) listed a w := ⟨fun h0 => absurd (hr ▸ h0) hne, hr ▸ h⟩
theorem wpAnyE_done {d : Nat} {listed : Array Bool} {a : Act} {w : World} (hr : Region.ready md ops listed = []) (h : Q .normal a w) : ∀ fuel, wpAnyE P md ops Q S d fuel listed a w
  | 0 => ⟨hr, h⟩
  | _ + 1 => ⟨fun _ => h, by rw [hr]; simp⟩
theorem wp_region_E {id d : Nat} {a : Act} {w : World} (hm : P.follows .mixedOrders = true)
    (h : wpAnyE P .any ops Q S d ops.size (Array.replicate ops.size false) a w.drew) : (Code.region id ops true).wp P Q a w := wp_region_any hm (wpAny_of_E _ _ _ _ h)
end
end Go.Proofs.YtbinmhcjadkmgaaDoor

/- cascade/json's reader: one value of a list. -/
set_option linter.unusedVariables false
set_option linter.unusedSimpArgs false
namespace Go.Proofs.YtbinmhcjadkmgaaDoor
open Go.RowKit
theorem jinfo25 : (Tryd.prog.info? 25).map (fun i => (i.zero, i.size, i.bytes)) = some (some (.agg #[.int .i64 0, .int .i64 0, .string ByteArray.empty, .slice none 0 0, .slice none 0 0]), 5, 80) := by kernel_rfl
abbrev zc : List Value := [.int .i64 0, .int .i64 0, .string ByteArray.empty, .slice none 0 0, .slice none 0 0]
theorem addr0 (g k : Nat) : (⟨g, 0, none⟩ : Addr).add k = ⟨g, k, none⟩ := by unfold Addr.add; split <;> simp_all
/-- Five cells written at o in block g. -/
abbrev put5 (w : World) (g o : Nat) (u : Hd) : World := (((((w.setCell ⟨g, o, none⟩ (.int .i64 u.k)).setCell ⟨g, o + 1, none⟩ (.int .i64 u.n)).setCell ⟨g, o + 2, none⟩ (.string u.s)).setCell ⟨g, o + 3, none⟩ (.slice u.A u.la u.lc)).setCell ⟨g, o + 4, none⟩ (.slice u.F u.lf u.fc))
theorem put5_other {w : World} {g o : Nat} {u : Hd} : ∀ b, b ≠ g → (put5 w g o u).heap[b]? = w.heap[b]? := fun b hb => by
  rw [Below.heap_setCell _ _ _ _ hb, Below.heap_setCell _ _ _ _ hb, Below.heap_setCell _ _ _ _ hb, Below.heap_setCell _ _ _ _ hb, Below.heap_setCell _ _ _ _ hb]
theorem put5_size {w : World} {g o : Nat} {u : Hd} : (put5 w g o u).heap.size = w.heap.size := by simp [put5]
theorem put5_below {B g o : Nat} {w w' : World} {u : Hd} (h : Below B w w') (hg : B ≤ g) : Below B w (put5 w' g o u) := ((((h.setCell hg _).setCell hg _).setCell hg _).setCell hg _).setCell hg _
theorem put5_own {w : World} {lo g n cap : Nat} {xs : List Value} {u : Hd} (h : w.ownsRow lo 25 5 (.slice (some ⟨g, 0, none⟩) (n + 1) cap) (n + 1) (xs ++ zc)) (hl : xs.length = n * 5) : (put5 w g (n * 5) u).ownsRow lo 25 5 (.slice (some ⟨g, 0, none⟩) (n + 1) cap) (n + 1) (xs ++ u.cells) := by
  have h0 := (h.stored (n * 5) (.int .i64 u.k)).1
  have h1 := (h0.stored (n * 5 + 1) (.int .i64 u.n)).1
  have h2 := (h1.stored (n * 5 + 2) (.string u.s)).1
  have h3 := (h2.stored (n * 5 + 3) (.slice u.A u.la u.lc)).1
  have h4 := (h3.stored (n * 5 + 4) (.slice u.F u.lf u.fc)).1
  have e : ((((((xs ++ zc).set (n * 5) (.int .i64 u.k)).set (n * 5 + 1) (.int .i64 u.n)).set (n * 5 + 2) (.string u.s)).set (n * 5 + 3) (.slice u.A u.la u.lc)).set (n * 5 + 4) (.slice u.F u.lf u.fc)) = xs ++ u.cells := by
    rw [List.set_append_right _ _ (by omega), List.set_append_right _ _ (by omega), List.set_append_right _ _ (by omega), List.set_append_right _ _ (by omega), List.set_append_right _ _ (by omega), hl, Nat.sub_self, Nat.add_sub_cancel_left, Nat.add_sub_cancel_left, Nat.add_sub_cancel_left, Nat.add_sub_cancel_left]
    rfl
  rw [e] at h4
  exact h4
theorem newcell {w : World} {lo g n cap : Nat} {xs : List Value} (h : w.ownsRow lo 25 5 (.slice (some ⟨g, 0, none⟩) (n + 1) cap) (n + 1) (xs ++ zc)) (hl : xs.length = n * 5) (j : Nat) (hj : j < 5) : w.cell? ⟨g, n * 5 + j, none⟩ = zc[j]? := by
  rw [h.cellAt _ (by omega), List.getElem?_append_right (by omega), hl, Nat.add_sub_cancel_left]
/-- What is left of it when there was an error. -/
structure BadZ (tb : TypeId) (w1 : World) (R Lb : Nat) (X : Nat → Prop) (w : World) : Prop where
  bel : Below R w1 w
  sz : w1.heap.size ≤ w.heap.size
  blk : ∀ k, k < w1.heap.size → ¬ X k → w.heap[k]? = w1.heap[k]?
  box : ∃ (A : Option Addr) (n c : Nat), w.heap[Lb]? = some (.cells #[.slice A n c] tb (0, 0))
theorem BadZ.rd {tb : TypeId} {w1 w w' : World} {R Lb : Nat} {X : Nat → Prop} (H : BadZ tb w1 R Lb X w) (hX : ∀ k, k < w1.heap.size → ¬ X k → k ≠ R) (hLR : Lb ≠ R) (hL : Lb < w1.heap.size) (hk : Kp R w w') : BadZ tb w1 R Lb X w' := by
  have hs := H.sz
  have hs2 := hk.size
  obtain ⟨A, n, c, hb⟩ := H.box
  exact ⟨H.bel.trans hk.bel, by omega, fun k h1 h2 => by rw [hk.block k (hX k h1 h2) (by omega)]; exact H.blk k h1 h2, A, n, c, by rw [hk.block Lb hLR (by omega)]; exact hb⟩
theorem AccZ.bad {α : Type} {fn : α → List Value} {hd : α → Hd} {ty : TypeId} {size : Nat} {tb : TypeId} {w1 w : World} {R Lb : Nat} {X : Nat → Prop} {acc : List Va} {us : List α} {A : Option Addr} {n c : Nat} (H : AccZ fn hd ty size tb w1 R Lb X acc us A n c w) : BadZ tb w1 R Lb X w := ⟨H.bel, H.sz, H.blk, A, n, c, H.box⟩
def XL (R Lb : Nat) (k : Nat) : Prop := k = R ∨ k = Lb
def InvLs (w1 : World) (R Lb : Nat) (w : World) (acc : List Va) : Prop := EV R w ∧ ∃ (us : List Hd) (A : Option Addr) (n c : Nat), AccZ Hd.cells id 25 5 22 w1 R Lb (XL R Lb) acc us A n c w
def BadLs (w1 : World) (R Lb : Nat) (w : World) : Prop := EV R w ∧ BadZ 22 w1 R Lb (XL R Lb) w
/-- The boxes are as they were. -/
def SB (w : World) (Lb Pb Vb : Nat) (w' : World) : Prop := w'.heap[Lb]? = w.heap[Lb]? ∧ w'.heap[Pb]? = w.heap[Pb]? ∧ w'.heap[Vb]? = w.heap[Vb]?
theorem SB.go {w w2 w3 : World} {Lb Pb Vb B : Nat} (h : SB w Lb Pb Vb w2) (hL : Lb < B) (hP : Pb < B) (hV : Vb < B) (hk : ∀ k, k < B → k = Lb ∨ k = Pb ∨ k = Vb → w3.heap[k]? = w2.heap[k]?) : SB w Lb Pb Vb w3 :=
  ⟨(hk _ hL (.inl rfl)).trans h.1, (hk _ hP (.inr (.inl rfl))).trans h.2.1, (hk _ hV (.inr (.inr rfl))).trans h.2.2⟩
theorem VlR.parts {R : Nat} {s : ByteArray} {b : Int} {g : Got} {w w' : World} {h' : Hd}
    (hor : (∃ (a : Va) (j : Nat), g = .ok a j ∧ RdP R w s j 0 b w' ∧ Lies w' (fun x => w.heap.size ≤ x) a h') ∨ (∃ (er : Int) (bd : Nat), g = .no er bd ∧ er ≠ 0 ∧ ∃ a' : Nat, a' ≤ s.size ∧ RdP R w s a' er bd w')) : Kp R w w' := by
  rcases hor with ⟨a, j, _, h, _⟩ | ⟨er, bd, _, _, a', _, h⟩
  · exact h.2
  · exact h.2
/-- What has become of it, the element's cells and the variable written, in either order. -/
structure Fin9 (wF w9 : World) (R Lb g lo n c cap : Nat) (A : Option Addr) (xs ys : List Value) : Prop where
  b9 : Below R wF w9
  s9 : wF.heap.size ≤ w9.heap.size
  k9 : ∀ k, k < wF.heap.size → k ≠ Lb → k ≠ g → (Value.slice A n c).ownBlock ≠ some k → w9.heap[k]? = wF.heap[k]?
  box9 : w9.heap[Lb]? = some (.cells #[.slice (some ⟨g, 0, none⟩) (n + 1) cap] 22 (0, 0))
  own9 : w9.ownsRow lo 25 5 (.slice (some ⟨g, 0, none⟩) (n + 1) cap) (n + 1) (xs ++ ys)
  at9 : (Value.slice A n c).ownBlock = some g ∨ wF.heap.size ≤ g
theorem fin_pre {wF w2 w3 : World} {R Lb g lo n c cap : Nat} {A : Option Addr} {xs : List Value} (hk2 : ∀ k, k < wF.heap.size → w2.heap[k]? = wF.heap[k]?) (hs2 : wF.heap.size ≤ w2.heap.size) (hb2 : Below R wF w2) (hg : w2.grownBy w3 (Value.slice A n c).ownBlock)
    (hlo : R < lo) (hL : Lb < lo) (hlF : lo ≤ wF.heap.size) (hO : ∀ k, (Value.slice A n c).ownBlock = some k → lo ≤ k) : Below R wF w3 ∧ wF.heap.size ≤ w3.heap.size ∧ (∀ k, k < wF.heap.size → (Value.slice A n c).ownBlock ≠ some k → w3.heap[k]? = wF.heap[k]?) := by
  have hs3 := hg.size
  refine ⟨hb2.grown hg (by omega) (fun k hk => by have := hO k hk; omega), by omega, fun k h1 h2 => ?_⟩
  rw [hg.block k (by omega) (fun e => h2 e.symm)]
  exact hk2 k h1
theorem fin_a {wF w2 w3 : World} {R Lb g lo n c cap : Nat} {A : Option Addr} {xs : List Value} {u : Hd} (hk2 : ∀ k, k < wF.heap.size → w2.heap[k]? = wF.heap[k]?) (hs2 : wF.heap.size ≤ w2.heap.size) (hb2 : Below R wF w2) (hg : w2.grownBy w3 (Value.slice A n c).ownBlock) (hown : w3.ownsRow lo 25 5 (.slice (some ⟨g, 0, none⟩) (n + 1) cap) (n + 1) (xs ++ zc)) (hl : xs.length = n * 5)
    (hlo : R < lo) (hL : Lb < lo) (hRL : R ≤ Lb) (hlF : lo ≤ wF.heap.size) (hO : ∀ k, (Value.slice A n c).ownBlock = some k → lo ≤ k) (hat : (Value.slice A n c).ownBlock = some g ∨ g = w2.heap.size) (hbox : wF.heap[Lb]? = some (.cells #[.slice A n c] 22 (0, 0))) :
    Fin9 wF ((put5 w3 g (n * 5) u).setCell ⟨Lb, 0, none⟩ (.slice (some ⟨g, 0, none⟩) (n + 1) cap)) R Lb g lo n c cap A xs u.cells := by
  obtain ⟨h1, h2, h3⟩ := fin_pre (g := g) (Lb := Lb) (cap := cap) (xs := xs) hk2 hs2 hb2 hg hlo hL hlF hO
  have hgl : lo ≤ g := (own_lo hown rfl).1
  have hgL : g ≠ Lb := by omega
  have hLO : (Value.slice A n c).ownBlock ≠ some Lb := fun e => by have := hO _ e; omega
  refine ⟨(put5_below h1 (by omega)).setCell hRL _, by simpa [put5_size] using h2, fun k a1 a2 a3 a4 => ?_, ?_, ?_, ?_⟩
  · rw [Below.heap_setCell _ _ _ _ a2, put5_other k a3]; exact h3 k a1 a4
  · have e : (put5 w3 g (n * 5) u).heap[Lb]? = some (.cells #[.slice A n c] 22 (0, 0)) := by rw [put5_other Lb (Ne.symm hgL), h3 Lb (by omega) hLO]; exact hbox
    exact Lib.heap_setCell_same (i := 0) e _
  · exact own_block (put5_own hown hl) fun k hk => by
      cases hk
      exact Below.heap_setCell _ _ _ _ hgL
  · exact hat.imp id (fun e => by omega)
theorem fin_b {wF w2 w3 : World} {R Lb g lo n c cap : Nat} {A : Option Addr} {xs : List Value} {u : Hd} (hk2 : ∀ k, k < wF.heap.size → w2.heap[k]? = wF.heap[k]?) (hs2 : wF.heap.size ≤ w2.heap.size) (hb2 : Below R wF w2) (hg : w2.grownBy w3 (Value.slice A n c).ownBlock) (hown : w3.ownsRow lo 25 5 (.slice (some ⟨g, 0, none⟩) (n + 1) cap) (n + 1) (xs ++ zc)) (hl : xs.length = n * 5)
    (hlo : R < lo) (hL : Lb < lo) (hRL : R ≤ Lb) (hlF : lo ≤ wF.heap.size) (hO : ∀ k, (Value.slice A n c).ownBlock = some k → lo ≤ k) (hat : (Value.slice A n c).ownBlock = some g ∨ g = w2.heap.size) (hbox : wF.heap[Lb]? = some (.cells #[.slice A n c] 22 (0, 0))) :
    Fin9 wF (put5 (w3.setCell ⟨Lb, 0, none⟩ (.slice (some ⟨g, 0, none⟩) (n + 1) cap)) g (n * 5) u) R Lb g lo n c cap A xs u.cells := by
  obtain ⟨h1, h2, h3⟩ := fin_pre (g := g) (Lb := Lb) (cap := cap) (xs := xs) hk2 hs2 hb2 hg hlo hL hlF hO
  have hgl : lo ≤ g := (own_lo hown rfl).1
  have hgL : g ≠ Lb := by omega
  have hLO : (Value.slice A n c).ownBlock ≠ some Lb := fun e => by have := hO _ e; omega
  refine ⟨put5_below (h1.setCell hRL _) (by omega), by simpa [put5_size] using h2, fun k a1 a2 a3 a4 => ?_, ?_, ?_, ?_⟩
  · rw [put5_other k a3, Below.heap_setCell _ _ _ _ a2]; exact h3 k a1 a4
  · have e : w3.heap[Lb]? = some (.cells #[.slice A n c] 22 (0, 0)) := by rw [h3 Lb (by omega) hLO]; exact hbox
    rw [put5_other Lb (Ne.symm hgL)]
    exact Lib.heap_setCell_same (i := 0) e _
  · exact put5_own (own_block hown fun k hk => by
      cases hk
      exact Below.heap_setCell _ _ _ _ hgL) hl
  · exact hat.imp id (fun e => by omega)
/-- The list's item, at its end. -/
theorem list_end {w1 w w0 wF w9 : World} {R Lb n c g cap i : Nat} {A : Option Addr} {us : List Hd} {s : ByteArray} {b : Int} {vl : Nat → Got} {acc : List Va} {h' : Hd} (hE : EV R w) (H : AccZ Hd.cells id 25 5 22 w1 R Lb (XL R Lb) acc us A n c w) (hRL : R < Lb) (hL : Lb < w1.heap.size) (hw0 : w.heap.size ≤ w0.heap.size) (hk : Kp R w wF)
    (hor : (∃ (a : Va) (j : Nat), vl i = .ok a j ∧ RdP R w0 s j 0 b wF ∧ Lies wF (fun x => w0.heap.size ≤ x) a h') ∨ (∃ (er : Int) (bd : Nat), vl i = .no er bd ∧ er ≠ 0 ∧ ∃ a' : Nat, a' ≤ s.size ∧ RdP R w0 s a' er bd wF))
    (F : Fin9 wF w9 R Lb g w1.heap.size n c cap A (us.flatMap Hd.cells) h'.cells) : OneP R s b (InvLs w1 R Lb) (BadLs w1 R Lb) (stepL vl acc i) w9 := by
  have hX : ∀ k, k < w1.heap.size → ¬ XL R Lb k → k ≠ R := fun k _ h e => h (.inl e)
  have hgl : w1.heap.size ≤ g := (own_lo F.own9 rfl).1
  have hsz := H.sz
  have hks := hk.size
  have hE9 : EV R w9 := hE.go (hk.bel.trans F.b9)
  have hR9 : ∀ (a e b : Int), Rdr wF R s a e b → Rdr w9 R s a e b := fun a e b h => (F.k9 R h.lt (by omega) (by omega) (fun e => by have := (own_lo H.own e).1; omega)).trans h
  have hbad : BadZ 22 w1 R Lb (XL R Lb) w9 := by
    refine ⟨(H.bel.trans hk.bel).trans F.b9, by have := F.s9; omega, fun k h1 h2 => ?_, _, _, _, F.box9⟩
    have hkL : k ≠ Lb := fun e => h2 (.inr e)
    rw [F.k9 k (by omega) hkL (by omega) (fun e => by have := (own_lo H.own e).1; omega), hk.block k (hX k h1 h2) (by omega)]
    exact H.blk k h1 h2
  unfold stepL
  rcases hor with ⟨a, j, hg, hr, hl⟩ | ⟨er, bd, hg, h0, a', ha, hr⟩
  · rw [hg]
    refine ⟨hR9 _ _ _ hr.1, hE9, us ++ [h'], some ⟨g, 0, none⟩, n + 1, cap, ?_⟩
    exact H.add (.inr rfl) hX (by omega) (by omega) hL hk (Lies.keep (fun _ _ _ => rfl) (fun b hb _ => by show w.heap.size ≤ b; have hb' : w0.heap.size ≤ b := hb; omega) a h' hl) F.b9 F.s9 F.k9 F.box9 F.own9 F.at9
  · rw [hg]
    exact ⟨h0, ⟨hE9, hbad⟩, a', ha, hR9 _ _ _ hr.1⟩
end Go.Proofs.YtbinmhcjadkmgaaDoor

/- cascade/json's reader: keys. -/
set_option linter.unusedVariables false
set_option linter.unusedSimpArgs false
namespace Go.Proofs.YtbinmhcjadkmgaaDoor
open Go.RowKit Go.Maps
/-- All is kept but the blocks of P. -/
structure Kq (B : Nat) (P : Nat → Prop) (w w' : World) : Prop where
  bel : Below B w w'
  size : w.heap.size ≤ w'.heap.size
  block : ∀ k, ¬ P k → k < w.heap.size → w'.heap[k]? = w.heap[k]?
theorem Kq.refl (B : Nat) (P : Nat → Prop) (w : World) : Kq B P w w := ⟨Below.refl _ _, Nat.le_refl _, fun _ _ _ => rfl⟩
theorem Kq.trans {B : Nat} {P : Nat → Prop} {a b c : World} (h : Kq B P a b) (k : Kq B P b c) : Kq B P a c :=
  ⟨h.bel.trans k.bel, Nat.le_trans h.size k.size, fun j hj hl => (k.block j hj (Nat.lt_of_lt_of_le hl h.size)).trans (h.block j hj hl)⟩
theorem Kq.rd {R : Nat} {P : Nat → Prop} {w w' : World} {s : ByteArray} {a e b : Int} (h : RdP R w s a e b w') (hP : P R) : Kq R P w w' := ⟨h.2.bel, h.2.size, fun k hk hl => h.2.block k (fun q => hk (q ▸ hP)) hl⟩
theorem Kq.grown {R mb : Nat} {P : Nat → Prop} {w w1 w2 : World} (h : Kq R P w w1) (hg : w1.grownBy w2 (some mb)) (hP : P mb) (hR : R ≤ mb) (hm : mb < w1.heap.size) : Kq R P w w2 := by
  have h2 := hg.size
  refine ⟨?_, Nat.le_trans h.size hg.size, fun k hk hl => ?_⟩
  · exact h.bel.trans ((Below.refl R w1).grown hg (by omega) (fun j hj => by cases hj; exact hR))
  · have := h.size
    rw [hg.block k (by omega) (by intro q; cases q; exact hk hP)]
    exact h.block k hk hl
theorem unqF_len (s : ByteArray) : ∀ f i o, i ≤ s.size → o.length ≤ 4 * i → (unqF s f i o).1.length ≤ 4 * s.size
  | 0, i, o, h, _ => by simp [unqF]
  | f + 1, i, o, h, ho => by
    have hl : ∀ r, (encL r).length ≤ 4 := fun r => by
      unfold encL
      repeat' split
      all_goals simp
    unfold unqF
    by_cases h1 : i < s.size
    · rw [if_pos h1]
      by_cases h2 : (s.get! i).toNat = 34
      · rw [if_pos h2]; show o.length ≤ _; omega
      rw [if_neg h2]
      by_cases h3 : (s.get! i).toNat < 32
      · rw [if_pos h3]; simp
      rw [if_neg h3]
      by_cases h4 : (s.get! i).toNat = 92
      · rw [if_pos h4]
        by_cases h5 : (escR s i).2 = 0
        · rw [if_pos h5]; simp
        · rw [if_neg h5]
          have hk : 2 ≤ (escR s i).2 ∧ i + (escR s i).2 ≤ s.size := by
            rcases escR_ok s i with e | e
            · exact absurd e h5
            · exact ⟨e.1, e.2.2.1⟩
          have := hl (escR s i).1
          exact unqF_len s f _ _ hk.2 (by rw [List.length_append]; omega)
      · rw [if_neg h4]
        by_cases h5 : badAt s i = true
        · rw [if_pos h5]; simp
        · rw [if_neg h5]
          have hk := dec_in s i h1
          have := hl (Utf8.decode s i).1
          exact unqF_len s f _ _ hk.2.1 (by rw [List.length_append]; omega)
    · rw [if_neg h1]; simp
theorem uq_len {s : ByteArray} {p : Nat} : (uq s p).1.length ≤ 4 * s.size := by
  unfold uq unq
  have hsz : (s.extract p s.size).size ≤ s.size := by rw [ByteArray.size_extract]; omega
  by_cases h : 0 < (s.extract p s.size).size ∧ ((s.extract p s.size).get! 0).toNat = 34
  · rw [if_pos h]
    have := unqF_len (s.extract p s.size) ((s.extract p s.size).size + 1) 1 [] h.1 (by simp)
    omega
  · rw [if_neg h]; simp
/-- A map of one's own whose keys are these. -/
def MapKs (w : World) (mb n : Nat) (ks : List ByteArray) : Prop := ∃ D : DataW Unit, IsMap D ∧ (∀ x, Maps.has D (kl x) = true ↔ x ∈ ks) ∧ w.ownsMap Tryd.prog 9 (plainElem Tryd.prog 3) mb n D ∧ mb < w.heap.size
theorem MapKs.blk {w w' : World} {mb n : Nat} {ks : List ByteArray} (h : MapKs w mb n ks) (hb : w'.heap[mb]? = w.heap[mb]?) (hs : w.heap.size ≤ w'.heap.size) : MapKs w' mb n ks := by
  obtain ⟨D, h1, h2, ⟨es, clock, h3, h4⟩, h5⟩ := h
  exact ⟨D, h1, h2, ⟨es, clock, hb.trans h3, h4⟩, by omega⟩
theorem keys_put {D : DataW Unit} {ks : List ByteArray} {t : ByteArray} {v : DataW Unit} (h : IsMap D) (hh : ∀ x, Maps.has D (kl x) = true ↔ x ∈ ks) : IsMap (D.put (kl t) v) ∧ ∀ x, Maps.has (D.put (kl t) v) (kl x) = true ↔ x ∈ ks ++ [t] := by
  refine ⟨h.put _ _, fun x => ?_⟩
  by_cases e : x = t
  · subst e
    rw [has_put_same h (show WideAt.IsKeyLit (kl x) from trivial)]
    simp
  · rw [has_put_other (fun e' => e (kl_inj e')), hh x]
    simp [e]
/-- What key leaves. -/
def KeyP (R mb n : Nat) (s : ByteArray) (p : Nat) (b : Int) (ks : List ByteArray) (qt : ByteArray) (qn qe : Nat) (w : World) (e : Ending) (w' : World) : Prop :=
  Kq R (fun k => k = R ∨ k = mb) w w' ∧ ∃ t : ByteArray, e = .returned (.string t) ∧ ∃ ks', MapKs w' mb (n + 1) ks' ∧
    ((qe = 0 ∧ t = qt ∧ qt ∉ ks ∧ Rdr w' R s ((p + qn : Nat) : Int) 0 b ∧ ks' = ks ++ [qt]) ∨ (qe = 0 ∧ qt ∈ ks ∧ ∃ a' : Nat, a' ≤ s.size ∧ Rdr w' R s a' 7 p) ∨ (qe ≠ 0 ∧ ∃ a' : Nat, a' ≤ s.size ∧ Rdr w' R s a' (qe : Nat) ((p + qn : Nat) : Int)))
set_option maxHeartbeats 2000000 in
set_option maxRecDepth 100000 in
theorem key_any (R mb n : Nat) (s : ByteArray) (a : Nat) (b : Int) (ks : List ByteArray) (w : World) (h : Rdr w R s a 0 b) (ha : a ≤ s.size) (hs : s.size ≤ 1000000) (hE : EV R w) (hM : MapKs w mb n ks) (hn : n ≤ 2000000) (hR : R < mb) :
    Calls Tryd.prog 67 #[.pointer (some ⟨R, 0, none⟩), .map (some mb)] w fun e w' => KeyP R mb n s (blk s a) b ks ⟨(uq s (blk s a)).1.toArray⟩ (uq s (blk s a)).2.1 (uq s (blk s a)).2.2 w e w' := by
  have K1 := Lib.hid (blanks_any R s a 0 b w h ha hs)
  have HE := Lib.hid hE
  have HM := Lib.hid hM
  have hmb : mb < w.heap.size := by obtain ⟨_, _, _, _, h5⟩ := hM; exact h5
  have hbl := blk_le ha
  have K2 := Lib.hid (show ∀ w1, RdP R w s (blk s a) 0 b w1 → Calls Tryd.prog 44 #[.pointer (some ⟨R, 0, none⟩)] w1 fun e w' => QtP R s (blk s a) b (uq s (blk s a)).1 (uq s (blk s a)).2.1 (uq s (blk s a)).2.2 w1 e w' from fun w1 h1 => quoted_any R s (blk s a) b w1 h1.1 hbl hs (hE.rd h1))
  have hq1 := (uq_in hbl).1
  have hqt : (uq s (blk s a)).1.length ≤ 4000000 := by have := uq_len (s := s) (p := blk s a); omega
  clear h hE hM
  generalize (uq s (blk s a)).1 = ql at K2 hqt ⊢
  generalize (uq s (blk s a)).2.1 = qn at K2 hq1 ⊢
  generalize (uq s (blk s a)).2.2 = qe at K2 ⊢
  generalize blk s a = p at K1 K2 hbl hq1 ⊢
  go_enter Tryd.func67, Tryd.ntmps67
  go_wp2_with fail
  refine K1.out.mono ?_
  rintro e1 w1 ⟨rfl, h1⟩
  have H1 := Lib.hid h1
  have c1 := h1.1.c1
  clear h1
  go_wp2_with fail
  refine (K2.out w1 H1.out).mono ?_
  rintro e2 w2 hqr
  have HB : Hid (∃ (t : ByteArray) (a' : Nat) (er bd : Int), e2 = .returned (.string t) ∧ t.size ≤ 4000000 ∧ a' ≤ s.size ∧ RdP R w s a' er bd w2 ∧ ((qe = 0 ∧ t = ⟨ql.toArray⟩ ∧ a' = p + qn ∧ er = 0 ∧ bd = b) ∨ (qe ≠ 0 ∧ t = ByteArray.empty ∧ er = (qe : Nat) ∧ bd = ((p + qn : Nat) : Int)))) := Lib.hid (by
    rcases hqr with ⟨q1, q2, q3⟩ | ⟨q1, q2, q3⟩
    · exact ⟨_, p + qn, 0, b, q2, by show ql.toArray.size ≤ _; simpa using hqt, hq1, H1.out.trans q3, .inl ⟨q1, rfl, rfl, rfl, rfl⟩⟩
    · exact ⟨_, p, (qe : Nat), ((p + qn : Nat) : Int), q2, by decide, hbl, H1.out.trans q3, .inr ⟨q1, rfl, rfl, rfl⟩⟩)
  clear hqr K1 K2 H1 c1
  obtain ⟨t, a', er, bd, rfl, hts, ha', hp2, hcs⟩ := HB.out
  have HP2 := Lib.hid hp2
  have HCS := Lib.hid hcs
  have hko := WideMaps.keyOf_string_mk (P := Tryd.prog) Tryd.underlying9 (show t.size ≤ maxLen by unfold maxLen; omega)
  obtain ⟨D, hD1, hD2, hown, -⟩ := HM.out.blk (hp2.2.block mb (by omega) hmb) hp2.2.size
  have HD1 := Lib.hid hD1
  have HD2 := Lib.hid hD2
  have hs2 := hp2.2.size
  clear HB hp2 hcs hD1 hD2
  have HW := Lib.hid (show ∀ (w3 w4 : World) (a9 e9 b9 : Int), RdP R w s a9 e9 b9 w3 → w3.grownBy w4 (some mb) → w4.ownsMap Tryd.prog 9 (plainElem Tryd.prog 3) mb (n + 1) (D.put (kl t) (.lit (.int .i64 p))) → Kq R (fun k => k = R ∨ k = mb) w w4 ∧ MapKs w4 mb (n + 1) (ks ++ [t]) ∧ Rdr w4 R s a9 e9 b9 from fun w3 w4 a9 e9 b9 h3 hg ho => by
    refine ⟨(Kq.rd h3 (.inl rfl)).grown hg (.inr rfl) (by omega) (by have := h3.2.size; omega), ⟨_, (keys_put HD1.out HD2.out).1, (keys_put HD1.out HD2.out).2, ho, by have := hg.size; have := h3.2.size; omega⟩, ?_⟩
    exact (hg.block R h3.1.lt (by simp; omega)).trans h3.1)
  cases hh : Maps.has D (kl t)
  · have HNO := Lib.hid (show t ∉ ks from fun q => by have := (HD2.out t).2 q; rw [hh] at this; cases this)
    have HH := Lib.hid hh
    clear hh
    go_wp2_with (first
      | (at_lookup; refine wpList_lookup_own_ok_int _ rfl _ _ 77 rfl 9 3 .i64 law9 Tryd.underlying77 Tryd.underlying3 (zero3 _) mb n D rfl hown _ _ rfl hko ?_; intro cL hat hwc; rw [HH.out])
      | (at_mapUpdate; refine wpList_mapUpdate_own _ rfl _ _ _ 77 rfl 9 3 law9 Tryd.underlying77 _ mb n _ rfl hown (by unfold maxLen; omega) _ _ _ rfl rfl hko _ [] (plainElem_int Tryd.underlying3 (WalkArith.wf_i64 (by omega))) ?_; intro w4 hown4 hgrow4))
    go_ret
    obtain ⟨r1, r2, r3⟩ := HW.out _ _ _ _ _ HP2.out hgrow4 hown4
    refine ⟨r1, t, rfl, _, r2, ?_⟩
    rcases HCS.out with ⟨q1, q2, q3, q4, q5⟩ | ⟨q1, q2, q3, q4⟩
    · refine .inl ⟨q1, q2, by rw [← q2]; exact HNO.out, ?_, by rw [q2]⟩
      rw [← q3, ← q4, ← q5]
      exact r3
    · refine .inr (.inr ⟨q1, a', ha', ?_⟩)
      rw [← q3, ← q4]
      exact r3
  · have HYE := Lib.hid ((HD2.out t).1 hh)
    have HH := Lib.hid hh
    clear hh
    go_wp2_with (at_lookup; refine wpList_lookup_own_ok_int _ rfl _ _ 77 rfl 9 3 .i64 law9 Tryd.underlying77 Tryd.underlying3 (zero3 _) mb n D rfl hown _ _ rfl hko ?_; intro cL hat hwc; rw [HH.out])
    have HF : Hid (Calls Tryd.prog 43 #[.pointer (some ⟨R, 0, none⟩), .int .i64 p, .int .i64 7] w2 fun e w' => e = .returned (.tuple #[]) ∧ ∃ (e9 b9 : Int), RdP R w s a' e9 b9 w' ∧ ((qe = 0 ∧ e9 = 7 ∧ b9 = p) ∨ (qe ≠ 0 ∧ e9 = (qe : Nat) ∧ b9 = ((p + qn : Nat) : Int)))) := Lib.hid (by
      rcases HCS.out with ⟨q1, q2, q3, q4, q5⟩ | ⟨q1, q2, q3, q4⟩
      · subst q4
        refine (fail_first R s a' bd p 7 w2 HP2.out.1).mono ?_
        rintro e w' ⟨rfl, hf⟩
        exact ⟨rfl, 7, p, HP2.out.trans hf, .inl ⟨q1, rfl, rfl⟩⟩
      · refine (fail_more R s a' bd er p 7 w2 HP2.out.1 (by rw [q3]; simpa using q1)).mono ?_
        rintro e w' ⟨rfl, hf⟩
        exact ⟨rfl, er, bd, HP2.out.trans hf, .inr ⟨q1, q3, q4⟩⟩)
    refine HF.out.mono ?_
    rintro e3 w3 ⟨rfl, e9, b9, hp3, hc3⟩
    have HP3 := Lib.hid hp3
    have HC3 := Lib.hid hc3
    obtain ⟨es, clock, ho1, ho2⟩ := hown
    have HO := Lib.hid (show w3.ownsMap Tryd.prog 9 (plainElem Tryd.prog 3) mb n D from ⟨es, clock, by
      rw [hp3.2.block mb (by omega) hmb, ← HP2.out.2.block mb (by omega) hmb]
      exact ho1, ho2⟩)
    clear hp3 hc3 HF ho1 ho2
    go_wp2_with (at_mapUpdate; refine wpList_mapUpdate_own _ rfl _ _ _ 77 rfl 9 3 law9 Tryd.underlying77 _ mb n _ rfl HO.out (by unfold maxLen; omega) _ _ _ rfl rfl hko _ [] (plainElem_int Tryd.underlying3 (WalkArith.wf_i64 (by omega))) ?_; intro w4 hown4 hgrow4)
    go_ret
    obtain ⟨r1, r2, r3⟩ := HW.out _ _ _ _ _ HP3.out hgrow4 hown4
    refine ⟨r1, t, rfl, _, r2, ?_⟩
    rcases HC3.out with ⟨q1, q2, q3⟩ | ⟨q1, q2, q3⟩
    · refine .inr (.inl ⟨q1, ?_, a', ha', by rw [← q2, ← q3]; exact r3⟩)
      rcases HCS.out with ⟨_, p2, _⟩ | ⟨p1, _⟩
      · rw [← p2]; exact HYE.out
      · exact absurd q1 p1
    · exact .inr (.inr ⟨q1, a', ha', by rw [← q2, ← q3]; exact r3⟩)
end Go.Proofs.YtbinmhcjadkmgaaDoor

/- cascade/json's reader: one pair of an object. -/
set_option linter.unusedVariables false
set_option linter.unusedSimpArgs false
namespace Go.Proofs.YtbinmhcjadkmgaaDoor
open Go.RowKit
theorem jinfo48 : (Tryd.prog.info? 48).map (fun i => (i.zero, i.size, i.bytes)) = some (some (.agg #[.string ByteArray.empty, .int .i64 0, .int .i64 0, .string ByteArray.empty, .slice none 0 0, .slice none 0 0]), 6, 96) := by kernel_rfl
abbrev zp : List Value := [.string ByteArray.empty, .int .i64 0, .int .i64 0, .string ByteArray.empty, .slice none 0 0, .slice none 0 0]
/-- Six cells written at o in block g. -/
abbrev put6 (w : World) (g o : Nat) (u : ByteArray × Hd) : World := ((((((w.setCell ⟨g, o, none⟩ (.string u.1)).setCell ⟨g, o + 1, none⟩ (.int .i64 u.2.k)).setCell ⟨g, o + 2, none⟩ (.int .i64 u.2.n)).setCell ⟨g, o + 3, none⟩ (.string u.2.s)).setCell ⟨g, o + 4, none⟩ (.slice u.2.A u.2.la u.2.lc)).setCell ⟨g, o + 5, none⟩ (.slice u.2.F u.2.lf u.2.fc))
theorem put6_other {w : World} {g o : Nat} {u : ByteArray × Hd} : ∀ b, b ≠ g → (put6 w g o u).heap[b]? = w.heap[b]? := fun b hb => by
  rw [Below.heap_setCell _ _ _ _ hb, Below.heap_setCell _ _ _ _ hb, Below.heap_setCell _ _ _ _ hb, Below.heap_setCell _ _ _ _ hb, Below.heap_setCell _ _ _ _ hb, Below.heap_setCell _ _ _ _ hb]
theorem put6_size {w : World} {g o : Nat} {u : ByteArray × Hd} : (put6 w g o u).heap.size = w.heap.size := by simp [put6]
theorem put6_below {B g o : Nat} {w w' : World} {u : ByteArray × Hd} (h : Below B w w') (hg : B ≤ g) : Below B w (put6 w' g o u) := (((((h.setCell hg _).setCell hg _).setCell hg _).setCell hg _).setCell hg _).setCell hg _
theorem put6_own {w : World} {lo g n cap : Nat} {xs : List Value} {u : ByteArray × Hd} (h : w.ownsRow lo 48 6 (.slice (some ⟨g, 0, none⟩) (n + 1) cap) (n + 1) (xs ++ zp)) (hl : xs.length = n * 6) : (put6 w g (n * 6) u).ownsRow lo 48 6 (.slice (some ⟨g, 0, none⟩) (n + 1) cap) (n + 1) (xs ++ pcells u) := by
  have h0 := (h.stored (n * 6) (.string u.1)).1
  have h1 := (h0.stored (n * 6 + 1) (.int .i64 u.2.k)).1
  have h2 := (h1.stored (n * 6 + 2) (.int .i64 u.2.n)).1
  have h3 := (h2.stored (n * 6 + 3) (.string u.2.s)).1
  have h4 := (h3.stored (n * 6 + 4) (.slice u.2.A u.2.la u.2.lc)).1
  have h5 := (h4.stored (n * 6 + 5) (.slice u.2.F u.2.lf u.2.fc)).1
  have e : (((((((xs ++ zp).set (n * 6) (.string u.1)).set (n * 6 + 1) (.int .i64 u.2.k)).set (n * 6 + 2) (.int .i64 u.2.n)).set (n * 6 + 3) (.string u.2.s)).set (n * 6 + 4) (.slice u.2.A u.2.la u.2.lc)).set (n * 6 + 5) (.slice u.2.F u.2.lf u.2.fc)) = xs ++ pcells u := by
    rw [List.set_append_right _ _ (by omega), List.set_append_right _ _ (by omega), List.set_append_right _ _ (by omega), List.set_append_right _ _ (by omega), List.set_append_right _ _ (by omega), List.set_append_right _ _ (by omega), hl, Nat.sub_self, Nat.add_sub_cancel_left, Nat.add_sub_cancel_left, Nat.add_sub_cancel_left, Nat.add_sub_cancel_left, Nat.add_sub_cancel_left]
    rfl
  rw [e] at h5
  exact h5
theorem newcellp {w : World} {lo g n cap : Nat} {xs : List Value} (h : w.ownsRow lo 48 6 (.slice (some ⟨g, 0, none⟩) (n + 1) cap) (n + 1) (xs ++ zp)) (hl : xs.length = n * 6) (j : Nat) (hj : j < 6) : w.cell? ⟨g, n * 6 + j, none⟩ = zp[j]? := by
  rw [h.cellAt _ (by omega), List.getElem?_append_right (by omega), hl, Nat.add_sub_cancel_left]
theorem AccZ.kq {α : Type} {fn : α → List Value} {hd : α → Hd} {ty : TypeId} {size : Nat} {tb : TypeId} {w1 w w' : World} {R Lb Mb : Nat} {X : Nat → Prop} {acc : List Va} {us : List α} {A : Option Addr} {n c : Nat}
    (H : AccZ fn hd ty size tb w1 R Lb X acc us A n c w) (hXR : X R) (hXM : X Mb) (hLR : Lb ≠ R) (hLM : Lb ≠ Mb) (hR : R < w1.heap.size) (hL : Lb < w1.heap.size) (hM : Mb < w1.heap.size) (hk : Kq R (fun k => k = R ∨ k = Mb) w w') : AccZ fn hd ty size tb w1 R Lb X acc us A n c w' := by
  have hs := H.sz
  have hs2 := hk.size
  refine ⟨H.bel.trans hk.bel, by omega, fun k h1 h2 => ?_, ?_, ?_, H.len, H.lenA, fun j y u hy hu => ?_⟩
  · rw [hk.block k (fun e => by rcases e with e | e <;> subst e <;> exact h2 (by assumption)) (by omega)]; exact H.blk k h1 h2
  · rw [hk.block Lb (fun e => by rcases e with e | e; exact hLR e; exact hLM e) (by omega)]; exact H.box
  · exact own_block H.own fun g hg => hk.block g (fun e => by have := own_lo H.own hg; rcases e with e | e <;> omega) (own_lo H.own hg).2
  · exact Lies.keep (fun p hp hl => World.cell?_of_block (hk.block p.block (fun e => by have := hp.1; rcases e with e | e <;> omega) hl)) (fun b hb _ => hb) y (hd u) (H.lies j y u hy hu)
theorem BadZ.kq {tb : TypeId} {w1 w w' : World} {R Lb Mb : Nat} {X : Nat → Prop} (H : BadZ tb w1 R Lb X w) (hXR : X R) (hXM : X Mb) (hLR : Lb ≠ R) (hLM : Lb ≠ Mb) (hL : Lb < w1.heap.size) (hk : Kq R (fun k => k = R ∨ k = Mb) w w') : BadZ tb w1 R Lb X w' := by
  have hs := H.sz
  have hs2 := hk.size
  obtain ⟨A, n, c, hb⟩ := H.box
  exact ⟨H.bel.trans hk.bel, by omega, fun k h1 h2 => by rw [hk.block k (fun e => by rcases e with e | e <;> subst e <;> exact h2 (by assumption)) (by omega)]; exact H.blk k h1 h2, A, n, c, by rw [hk.block Lb (fun e => by rcases e with e | e; exact hLR e; exact hLM e) (by omega)]; exact hb⟩
def XO (R Lb Mb : Nat) (k : Nat) : Prop := k = R ∨ k = Lb ∨ k = Mb
def InvOb (w1 : World) (R Lb Mb : Nat) (w : World) (x : List ByteArray × List Va) : Prop := EV R w ∧ MapKs w Mb x.1.length x.1 ∧ (∀ k ∈ x.1, k.size ≤ 4000000) ∧ ∃ (us : List (ByteArray × Hd)) (A : Option Addr) (n c : Nat), us.map Prod.fst = x.1 ∧ AccZ pcells Prod.snd 48 6 23 w1 R Lb (XO R Lb Mb) x.2 us A n c w
def BadOb (w1 : World) (R Lb Mb : Nat) (w : World) : Prop := EV R w ∧ BadZ 23 w1 R Lb (XO R Lb Mb) w
/-- What has become of it, the element's cells and the variable written, in either order. -/
structure Fin8 (wF w9 : World) (R Lb g lo n c cap : Nat) (A : Option Addr) (xs ys : List Value) : Prop where
  b9 : Below R wF w9
  s9 : wF.heap.size ≤ w9.heap.size
  k9 : ∀ k, k < wF.heap.size → k ≠ Lb → k ≠ g → (Value.slice A n c).ownBlock ≠ some k → w9.heap[k]? = wF.heap[k]?
  box9 : w9.heap[Lb]? = some (.cells #[.slice (some ⟨g, 0, none⟩) (n + 1) cap] 23 (0, 0))
  own9 : w9.ownsRow lo 48 6 (.slice (some ⟨g, 0, none⟩) (n + 1) cap) (n + 1) (xs ++ ys)
  at9 : (Value.slice A n c).ownBlock = some g ∨ wF.heap.size ≤ g
theorem fin_ao {wF w2 w3 : World} {R Lb g lo n c cap : Nat} {A : Option Addr} {xs : List Value} {u : ByteArray × Hd} (hk2 : ∀ k, k < wF.heap.size → w2.heap[k]? = wF.heap[k]?) (hs2 : wF.heap.size ≤ w2.heap.size) (hb2 : Below R wF w2) (hg : w2.grownBy w3 (Value.slice A n c).ownBlock) (hown : w3.ownsRow lo 48 6 (.slice (some ⟨g, 0, none⟩) (n + 1) cap) (n + 1) (xs ++ zp)) (hl : xs.length = n * 6)
    (hlo : R < lo) (hL : Lb < lo) (hRL : R ≤ Lb) (hlF : lo ≤ wF.heap.size) (hO : ∀ k, (Value.slice A n c).ownBlock = some k → lo ≤ k) (hat : (Value.slice A n c).ownBlock = some g ∨ g = w2.heap.size) (hbox : wF.heap[Lb]? = some (.cells #[.slice A n c] 23 (0, 0))) :
    Fin8 wF ((put6 w3 g (n * 6) u).setCell ⟨Lb, 0, none⟩ (.slice (some ⟨g, 0, none⟩) (n + 1) cap)) R Lb g lo n c cap A xs (pcells u) := by
  obtain ⟨h1, h2, h3⟩ := fin_pre (g := g) (Lb := Lb) (cap := cap) (xs := xs) hk2 hs2 hb2 hg hlo hL hlF hO
  have hgl : lo ≤ g := (own_lo hown rfl).1
  have hgL : g ≠ Lb := by omega
  have hLO : (Value.slice A n c).ownBlock ≠ some Lb := fun e => by have := hO _ e; omega
  refine ⟨(put6_below h1 (by omega)).setCell hRL _, by simpa [put6_size] using h2, fun k a1 a2 a3 a4 => ?_, ?_, ?_, ?_⟩
  · rw [Below.heap_setCell _ _ _ _ a2, put6_other k a3]; exact h3 k a1 a4
  · have e : (put6 w3 g (n * 6) u).heap[Lb]? = some (.cells #[.slice A n c] 23 (0, 0)) := by rw [put6_other Lb (Ne.symm hgL), h3 Lb (by omega) hLO]; exact hbox
    exact Lib.heap_setCell_same (i := 0) e _
  · exact own_block (put6_own hown hl) fun k hk => by
      cases hk
      exact Below.heap_setCell _ _ _ _ hgL
  · exact hat.imp id (fun e => by omega)
theorem fin_bo {wF w2 w3 : World} {R Lb g lo n c cap : Nat} {A : Option Addr} {xs : List Value} {u : ByteArray × Hd} (hk2 : ∀ k, k < wF.heap.size → w2.heap[k]? = wF.heap[k]?) (hs2 : wF.heap.size ≤ w2.heap.size) (hb2 : Below R wF w2) (hg : w2.grownBy w3 (Value.slice A n c).ownBlock) (hown : w3.ownsRow lo 48 6 (.slice (some ⟨g, 0, none⟩) (n + 1) cap) (n + 1) (xs ++ zp)) (hl : xs.length = n * 6)
    (hlo : R < lo) (hL : Lb < lo) (hRL : R ≤ Lb) (hlF : lo ≤ wF.heap.size) (hO : ∀ k, (Value.slice A n c).ownBlock = some k → lo ≤ k) (hat : (Value.slice A n c).ownBlock = some g ∨ g = w2.heap.size) (hbox : wF.heap[Lb]? = some (.cells #[.slice A n c] 23 (0, 0))) :
    Fin8 wF (put6 (w3.setCell ⟨Lb, 0, none⟩ (.slice (some ⟨g, 0, none⟩) (n + 1) cap)) g (n * 6) u) R Lb g lo n c cap A xs (pcells u) := by
  obtain ⟨h1, h2, h3⟩ := fin_pre (g := g) (Lb := Lb) (cap := cap) (xs := xs) hk2 hs2 hb2 hg hlo hL hlF hO
  have hgl : lo ≤ g := (own_lo hown rfl).1
  have hgL : g ≠ Lb := by omega
  have hLO : (Value.slice A n c).ownBlock ≠ some Lb := fun e => by have := hO _ e; omega
  refine ⟨put6_below (h1.setCell hRL _) (by omega), by simpa [put6_size] using h2, fun k a1 a2 a3 a4 => ?_, ?_, ?_, ?_⟩
  · rw [put6_other k a3, Below.heap_setCell _ _ _ _ a2]; exact h3 k a1 a4
  · have e : w3.heap[Lb]? = some (.cells #[.slice A n c] 23 (0, 0)) := by rw [h3 Lb (by omega) hLO]; exact hbox
    rw [put6_other Lb (Ne.symm hgL)]
    exact Lib.heap_setCell_same (i := 0) e _
  · exact put6_own (own_block hown fun k hk => by
      cases hk
      exact Below.heap_setCell _ _ _ _ hgL) hl
  · exact hat.imp id (fun e => by omega)
/-- The object's item, at its end. -/
theorem obj_end {w1 w w0 wF w9 : World} {R Lb Mb n c g cap pl : Nat} {A : Option Addr} {us : List (ByteArray × Hd)} {s key : ByteArray} {b : Int} {vl : Nat → Got} {ks : List ByteArray} {acc : List Va} {h' : Hd} (hE : EV R w) (H : AccZ pcells Prod.snd 48 6 23 w1 R Lb (XO R Lb Mb) acc us A n c w) (hus : us.map Prod.fst = ks) (hks : ∀ k ∈ ks, k.size ≤ 4000000) (hkey : key.size ≤ 4000000) (hM : MapKs w Mb (ks.length + 1) (ks ++ [key]))
    (hRL : R < Lb) (hL : Lb < w1.heap.size) (hMb : Mb < w1.heap.size) (hRM : R ≠ Mb) (hLM : Mb ≠ Lb) (hw0 : w.heap.size ≤ w0.heap.size) (hk : Kp R w wF) {G : Sum ((List ByteArray × List Va) × Nat) (Int × Nat)} (hG : G = match vl pl with | .no e b => .inr (e, b) | .ok v j => .inl ((ks ++ [key], acc ++ [v]), j))
    (hor : (∃ (a : Va) (j : Nat), vl pl = .ok a j ∧ RdP R w0 s j 0 b wF ∧ Lies wF (fun x => w0.heap.size ≤ x) a h') ∨ (∃ (er : Int) (bd : Nat), vl pl = .no er bd ∧ er ≠ 0 ∧ ∃ a' : Nat, a' ≤ s.size ∧ RdP R w0 s a' er bd wF))
    (F : Fin8 wF w9 R Lb g w1.heap.size n c cap A (us.flatMap pcells) (pcells (key, h'))) : OneP R s b (InvOb w1 R Lb Mb) (BadOb w1 R Lb Mb) G w9 := by
  have hX : ∀ k, k < w1.heap.size → ¬ XO R Lb Mb k → k ≠ R := fun k _ h e => h (.inl e)
  have hgl : w1.heap.size ≤ g := (own_lo F.own9 rfl).1
  have hsz := H.sz
  have hks2 := hk.size
  have hE9 : EV R w9 := hE.go (hk.bel.trans F.b9)
  have hR9 : ∀ (a e b : Int), Rdr wF R s a e b → Rdr w9 R s a e b := fun a e b h => (F.k9 R h.lt (by omega) (by omega) (fun e => by have := (own_lo H.own e).1; omega)).trans h
  have hM9 : MapKs w9 Mb (ks.length + 1) (ks ++ [key]) := hM.blk (by rw [F.k9 Mb (by omega) hLM (by omega) (fun e => by have := (own_lo H.own e).1; omega), hk.block Mb (Ne.symm hRM) (by omega)]) (by have := F.s9; omega)
  have hbad : BadZ 23 w1 R Lb (XO R Lb Mb) w9 := by
    refine ⟨(H.bel.trans hk.bel).trans F.b9, by have := F.s9; omega, fun k h1 h2 => ?_, _, _, _, F.box9⟩
    have hkL : k ≠ Lb := fun e => h2 (.inr (.inl e))
    rw [F.k9 k (by omega) hkL (by omega) (fun e => by have := (own_lo H.own e).1; omega), hk.block k (hX k h1 h2) (by omega)]
    exact H.blk k h1 h2
  rw [hG]
  rcases hor with ⟨a, j, hg, hr, hl⟩ | ⟨er, bd, hg, h0, a', ha, hr⟩
  · rw [hg]
    refine ⟨hR9 _ _ _ hr.1, hE9, by simpa using hM9, fun k hk => ?_, us ++ [(key, h')], some ⟨g, 0, none⟩, n + 1, cap, by simp [hus], ?_⟩
    · rcases List.mem_append.1 hk with hk | hk
      · exact hks k hk
      · simp at hk; subst hk; exact hkey
    exact H.add (.inr (.inl rfl)) hX (by omega) (by omega) hL hk (Lies.keep (fun _ _ _ => rfl) (fun b hb _ => by show w.heap.size ≤ b; have hb' : w0.heap.size ≤ b := hb; omega) a h' hl) F.b9 F.s9 F.k9 F.box9 F.own9 F.at9
  · rw [hg]
    exact ⟨h0, ⟨hE9, hbad⟩, a', ha, hR9 _ _ _ hr.1⟩
end Go.Proofs.YtbinmhcjadkmgaaDoor

/- cascade/json's reader: one pair of an object, walked. -/
set_option linter.unusedVariables false
set_option linter.unusedSimpArgs false
namespace Go.Proofs.YtbinmhcjadkmgaaDoor
open Go.RowKit
theorem stepO_ok {vl : Nat → Got} {s : ByteArray} {ks : List ByteArray} {acc : List Va} {i p qn pl : Nat} {key : ByteArray} (hp : blk s i = p) (hqn : (uq s p).2.1 = qn) (hqe : (uq s p).2.2 = 0) (hk : key = ⟨(uq s p).1.toArray⟩) (hn : key ∉ ks) (hc : sgn s (p + qn) sColon = true) (hpl : pl = blk s (p + qn) + 1) :
    stepO vl s (ks, acc) i = match vl pl with | .no e b => .inr (e, b) | .ok v j => .inl ((ks ++ [key], acc ++ [v]), j) := by
  subst hp hqn hk hpl
  unfold stepO
  rw [if_neg (by rw [hqe]; simp)]
  have hh : hasK ks (keyB s (blk s i)) = false := by
    rw [Bool.eq_false_iff]; intro h; exact hn (hasK_iff.1 h)
  simp only
  rw [hh, if_neg (by simp), if_pos hc]
  all_goals (cases vl (blk s (blk s i + (uq s (blk s i)).2.1) + 1) <;> rfl)
theorem stepO_no {vl : Nat → Got} {s : ByteArray} {ks : List ByteArray} {acc : List Va} {i p qn : Nat} {key : ByteArray} (hp : blk s i = p) (hqn : (uq s p).2.1 = qn) (hqe : (uq s p).2.2 = 0) (hk : key = ⟨(uq s p).1.toArray⟩) (hn : key ∉ ks) (hc : sgn s (p + qn) sColon = false) :
    stepO vl s (ks, acc) i = .inr (4, blk s (p + qn)) := by
  subst hp hqn hk
  unfold stepO
  rw [if_neg (by rw [hqe]; simp)]
  have hh : hasK ks (keyB s (blk s i)) = false := by
    rw [Bool.eq_false_iff]; intro h; exact hn (hasK_iff.1 h)
  simp only
  rw [hh, if_neg (by simp), hc, if_neg (by simp)]
theorem stepO_dup {vl : Nat → Got} {s : ByteArray} {ks : List ByteArray} {acc : List Va} {i p : Nat} {key : ByteArray} (hp : blk s i = p) (hqe : (uq s p).2.2 = 0) (hk : key = ⟨(uq s p).1.toArray⟩) (hn : key ∈ ks) : stepO vl s (ks, acc) i = .inr (7, p) := by
  subst hp hk
  unfold stepO
  rw [if_neg (by rw [hqe]; simp), if_pos (hasK_iff.2 hn)]
theorem stepO_bad {vl : Nat → Got} {s : ByteArray} {x : List ByteArray × List Va} {i p qn qe : Nat} (hp : blk s i = p) (hqn : (uq s p).2.1 = qn) (hqe : (uq s p).2.2 = qe) (h0 : qe ≠ 0) : stepO vl s x i = .inr ((qe : Nat), p + qn) := by
  subst hp hqn hqe
  unfold stepO
  rw [if_pos h0]
set_option maxHeartbeats 8000000 in
set_option maxRecDepth 100000 in
theorem one_obj (R Lb Pb Vb Bb Mb i : Nat) (s : ByteArray) (lv b : Int) (vl : Nat → Got) (ks : List ByteArray) (acc : List Va) (w1 w : World) (hlv : IntKind.i64.wrap (lv + 1) = lv + 1) (hs : s.size ≤ 1000000) (hi : i ≤ s.size) (hlen : ks.length ≤ i)
    (hRL : R < Lb) (hRP : R < Pb) (hRV : R < Vb) (hRB : R < Bb) (hRM : R < Mb) (hL : Lb < w1.heap.size) (hPb : Pb < w1.heap.size) (hVb : Vb < w1.heap.size) (hBb : Bb < w1.heap.size) (hMb : Mb < w1.heap.size) (hLP : Pb ≠ Lb) (hLV : Vb ≠ Lb) (hLB : Bb ≠ Lb) (hLM : Mb ≠ Lb) (hMP : Pb ≠ Mb) (hMV : Vb ≠ Mb) (hMB : Bb ≠ Mb)
    (hP1 : w1.cell? ⟨Pb, 0, none⟩ = some (.pointer (some ⟨R, 0, none⟩))) (hV1 : w1.cell? ⟨Vb, 0, none⟩ = some (.int .i64 lv)) (hB1 : w1.cell? ⟨Bb, 0, none⟩ = some (.map (some Mb)))
    (h : Rdr w R s (i : Nat) 0 b) (hI : InvOb w1 R Lb Mb w (ks, acc))
    (hV : ∀ w2 p, p ≤ s.size → Rdr w2 R s (p : Nat) 0 b → EV R w2 → Calls Tryd.prog 33 #[.pointer (some ⟨R, 0, none⟩), .int .i64 (lv + 1)] w2 fun e w' => VlR R s b (vl p) w2 e w') :
    Calls Tryd.prog 66 #[.pointer (some ⟨Pb, 0, none⟩), .pointer (some ⟨Bb, 0, none⟩), .pointer (some ⟨Lb, 0, none⟩), .pointer (some ⟨Vb, 0, none⟩)] w fun e w' => e = .returned (.tuple #[]) ∧ OneP R s b (InvOb w1 R Lb Mb) (BadOb w1 R Lb Mb) (stepO vl s (ks, acc) i) w' := by
  obtain ⟨i0, hi0, hz0, hz1, hz2⟩ := info_parts jinfo48
  obtain ⟨hE, hM, hKS, us, A, n, c, hus, hA⟩ := hI
  simp only at hM hKS hus hA
  have HV := Lib.hid hV
  have HKS := Lib.hid hKS
  have HRM := Lib.hid (show R ≠ Mb by omega)
  have HLM := Lib.hid hLM
  have hRlo : R < w1.heap.size := by omega
  have hX : ∀ k, k < w1.heap.size → ¬ XO R Lb Mb k → k ≠ R := fun k _ h e => h (.inl e)
  have HB1 := Lib.hid (show ∀ w', (∀ k, k < w1.heap.size → ¬ XO R Lb Mb k → w'.heap[k]? = w1.heap[k]?) → (World.cell? w' ⟨Pb, 0, none⟩ = some (.pointer (some ⟨R, 0, none⟩)) ∧ w'.cell? ⟨Vb, 0, none⟩ = some (.int .i64 lv) ∧ w'.cell? ⟨Bb, 0, none⟩ = some (.map (some Mb))) from fun w' hk =>
    ⟨(World.cell?_of_block (a := ⟨Pb, 0, none⟩) (hk Pb hPb (fun e => by rcases e with e | e | e <;> omega))).trans hP1, (World.cell?_of_block (a := ⟨Vb, 0, none⟩) (hk Vb hVb (fun e => by rcases e with e | e | e <;> omega))).trans hV1, (World.cell?_of_block (a := ⟨Bb, 0, none⟩) (hk Bb hBb (fun e => by rcases e with e | e | e <;> omega))).trans hB1⟩)
  obtain ⟨b1, b2, b3⟩ := HB1.out w hA.blk
  have KK := Lib.hid (key_any R Mb ks.length s i b ks w h hi hs hE hM (by omega) hRM)
  have hbl := blk_le hi
  obtain ⟨p, hp⟩ : ∃ p, blk s i = p := ⟨_, rfl⟩
  rw [hp] at KK hbl
  have HP := Lib.hid hp
  have hq1 := (uq_in hbl).1
  have hql := @uq_len s p
  obtain ⟨qn, hqn⟩ : ∃ q, (uq s p).2.1 = q := ⟨_, rfl⟩
  obtain ⟨qe, hqe⟩ : ∃ q, (uq s p).2.2 = q := ⟨_, rfl⟩
  obtain ⟨qt, hqt⟩ : ∃ q : ByteArray, q = ⟨(uq s p).1.toArray⟩ := ⟨_, rfl⟩
  have hqs : qt.size ≤ 4000000 := by
    have : qt.size = (uq s p).1.length := by rw [hqt]; simp [ByteArray.size]
    omega
  rw [hqn, hqe, ← hqt] at KK
  rw [hqn] at hq1
  have HQN := Lib.hid hqn
  have HQE := Lib.hid hqe
  have HQT := Lib.hid hqt
  have HA0 := Lib.hid hA
  have HE0 := Lib.hid hE
  have HUS := Lib.hid hus
  clear hA hE hM hKS hV hP1 hV1 hB1 h hp hqn hqe hqt hql hus
  go_enter Tryd.func66, Tryd.ntmps66
  go_wp2_with fail
  refine KK.out.mono ?_
  rintro e1 w2 ⟨hq, t, rfl, ks', hM2, hcs⟩
  have hA2 := HA0.out.kq (Mb := Mb) (.inl rfl) (.inr (.inr rfl)) (by omega) (Ne.symm hLM) hRlo hL hMb hq
  have HA2 := Lib.hid hA2
  have HE2 := Lib.hid (HE0.out.go hq.bel)
  have HM2 := Lib.hid hM2
  have HCS := Lib.hid hcs
  obtain ⟨c1, c2, c3⟩ := HB1.out w2 hA2.blk
  clear hA2 hq hM2 hcs KK b1 b2 b3
  have HBAD : Hid (∀ (a' er bd : Nat), er ≠ 0 → a' ≤ s.size → Rdr w2 R s (a' : Nat) (er : Nat) (bd : Nat) → ∃ K2 : Calls Tryd.prog 68 #[.pointer (some ⟨R, 0, none⟩), .string ⟨#[58]⟩] w2 (fun e' w' => e' = .returned (.tuple #[]) ∧ ∃ a4 : Nat, a4 ≤ s.size ∧ RdP R w2 s a4 er bd w'), True) := Lib.hid fun a' er bd h0 ha hr => ⟨must_bad R s ⟨#[58]⟩ a' er bd w2 hr (by omega) ha hs, trivial⟩
  by_cases hgood : qe = 0 ∧ qt ∉ ks
  · obtain ⟨h0, hnk⟩ := hgood
    subst h0
    obtain ⟨rfl, hr2, rfl⟩ : t = qt ∧ Rdr w2 R s ((p + qn : Nat) : Int) 0 b ∧ ks' = ks ++ [qt] := by
      rcases HCS.out with ⟨_, h1, _, h3, h4⟩ | ⟨_, h1, _⟩ | ⟨h1, _⟩
      · exact ⟨h1, h3, h4⟩
      · exact absurd h1 hnk
      · exact absurd rfl h1
    by_cases hcol : sgn s (p + qn) sColon = true
    · have K2 := Lib.hid (must_yes R s sColon (p + qn) 0 b w2 hr2 hq1 hs hcol)
      have hpl : blk s (p + qn) + 1 ≤ s.size := sgn_in hcol hq1
      obtain ⟨pl, hple⟩ : ∃ pl, pl = blk s (p + qn) + 1 := ⟨_, rfl⟩
      have HG := Lib.hid (stepO_ok (vl := vl) (acc := acc) HP.out HQN.out HQE.out HQT.out hnk hcol hple)
      have e1 : blk s (p + qn) + (sColon).size = pl := by rw [hple]; rfl
      rw [e1] at K2
      rw [← hple] at hpl
      have HPL := Lib.hid hpl
      clear hcol hr2 hple e1 HCS hnk
      go_wp2_with fail
      refine K2.out.mono ?_
      rintro e2 w ⟨rfl, h3⟩
      have HR := Lib.hid h3.1
      have hA := HA2.out.rd (fun k h1 _ h2 => hX k h1 h2) (by omega) hRlo hL h3.2
      have HA := Lib.hid hA
      have HE := Lib.hid (HE2.out.rd h3)
      have HM := Lib.hid (HM2.out.blk (h3.2.block Mb (by omega) (by have := HA2.out.sz; omega)) h3.2.size)
      have HKEY := Lib.hid hqs
      obtain ⟨a1, a2, a3⟩ := HB1.out w hA.blk
      have d2 := h3.1.c2
      obtain ⟨key, hkey⟩ : ∃ key, key = t := ⟨_, rfl⟩
      rw [← hkey] at HKEY HM HG ⊢
      have hus := HUS.out
      clear h3 K2 c1 c2 c3 HA2 HE2 HM2 hkey hpl
      go_upto_region 3 with fail
      have hn : n ≤ 1000000 := by have := hA.lenA; have := hA.len; have := congrArg List.length hus; simp at this; omega
      have hsz := hA.sz
      have hbox := hA.box
      have a0 : w.cell? ⟨Lb, 0, none⟩ = some (.slice A n c) := Lib.cell_of_heap hbox 0
      have af : w.frozen? ⟨Lb, 0, none⟩ = false := Lib.frozen_of_heap hbox 0
      have hS : SB w Lb Pb Vb w.drew := ⟨rfl, rfl, rfl⟩
      have HOWN := Lib.hid (show ∀ w' : World, (∀ k, k < w.heap.size → k ≠ R → w'.heap[k]? = w.heap[k]?) → w'.ownsRow w1.heap.size 48 6 (.slice A n c) n (us.flatMap pcells) from fun w' hk => own_block hA.own fun g hg => hk g (own_lo hA.own hg).2 (by have := (own_lo hA.own hg).1; omega))
      have HO := Lib.hid (show ∀ k, (Value.slice A n c).ownBlock = some k → w1.heap.size ≤ k from fun k hk => (own_lo hA.own hk).1)
      have HXL := Lib.hid (show (us.flatMap pcells).length = n * 6 from hA.own.1)
      have hni : (n : Int) < ((n + 1 : Nat) : Int) := by omega
      have hnn : n < n + 1 := by omega
      have h0n : (0 : Int) ≤ (n : Int) := by omega
      have hn1 : (n : Int) < (n : Int) + 1 := by omega
      clear hA hus
      refine wp_region_E (S := SB w Lb Pb Vb) (d := 12) (by kernel_rfl) ?_
      refine wpAnyE_take (i := 0) (d := 12) (v := .slice A n c) rfl rfl (by kernel_rfl) (by decide) (by kernel_rfl) (by kernel_rfl) (by kernel_rfl) (by kernel_rfl) (fun _ _ _ h => h) (Or.inl ⟨by rfl, ?_⟩) hS ?_
      · intro w' hw
        have q0 := (World.cell?_of_block (a := ⟨Lb, 0, none⟩) hw.1).trans a0
        have q1 := (World.cell?_of_block (a := ⟨Pb, 0, none⟩) hw.2.1).trans a1
        have q2 := (World.cell?_of_block (a := ⟨Vb, 0, none⟩) hw.2.2).trans a2
        go_simp
      try simp only [Act.put, List.setIfInBounds_toArray, List.set_cons_zero, List.set_cons_succ]
      refine wpAnyE_takeP (i := 1) (d := 12) (v := .string key) rfl (by decide) (by kernel_rfl) (by kernel_rfl) (by kernel_rfl) (fun _ _ _ h => h) (Or.inl ⟨by rfl, ?_⟩) hS ?_
      · intro w' hw
        go_simp
      try simp only [Act.put, List.setIfInBounds_toArray, List.set_cons_zero, List.set_cons_succ]
      refine wpAnyE_take (i := 2) (d := 12) (v := .pointer (some ⟨R, 0, none⟩)) rfl rfl (by kernel_rfl) (by decide) (by kernel_rfl) (by kernel_rfl) (by kernel_rfl) (by kernel_rfl) (fun _ _ _ h => h) (Or.inl ⟨by rfl, ?_⟩) hS ?_
      · intro w' hw
        have q0 := (World.cell?_of_block (a := ⟨Lb, 0, none⟩) hw.1).trans a0
        have q1 := (World.cell?_of_block (a := ⟨Pb, 0, none⟩) hw.2.1).trans a1
        have q2 := (World.cell?_of_block (a := ⟨Vb, 0, none⟩) hw.2.2).trans a2
        go_simp
      try simp only [Act.put, List.setIfInBounds_toArray, List.set_cons_zero, List.set_cons_succ]
      refine wpAnyE_take (i := 3) (d := 12) (v := .int .i64 lv) rfl rfl (by kernel_rfl) (by decide) (by kernel_rfl) (by kernel_rfl) (by kernel_rfl) (by kernel_rfl) (fun _ _ _ h => h) (Or.inl ⟨by rfl, ?_⟩) hS ?_
      · intro w' hw
        have q0 := (World.cell?_of_block (a := ⟨Lb, 0, none⟩) hw.1).trans a0
        have q1 := (World.cell?_of_block (a := ⟨Pb, 0, none⟩) hw.2.1).trans a1
        have q2 := (World.cell?_of_block (a := ⟨Vb, 0, none⟩) hw.2.2).trans a2
        go_simp
      try simp only [Act.put, List.setIfInBounds_toArray, List.set_cons_zero, List.set_cons_succ]
      refine wpAnyE_take (i := 4) (d := 12) (v := .int .i64 (lv + 1)) rfl rfl (by kernel_rfl) (by decide) (by kernel_rfl) (by kernel_rfl) (by kernel_rfl) (by kernel_rfl) (fun _ _ _ h => h) (Or.inl ⟨by rfl, ?_⟩) hS ?_
      · intro w' hw
        go_simp
      try simp only [Act.put, List.setIfInBounds_toArray, List.set_cons_zero, List.set_cons_succ]
      refine wpAnyE_take (i := 7) (d := 12) (v := .int .i64 n) rfl rfl (by kernel_rfl) (by decide) (by kernel_rfl) (by kernel_rfl) (by kernel_rfl) (by kernel_rfl) (fun _ _ _ h => h) (Or.inl ⟨by rfl, ?_⟩) hS ?_
      · intro w' hw
        go_simp
      try simp only [Act.put, List.setIfInBounds_toArray, List.set_cons_zero, List.set_cons_succ]
      refine wpAnyE_all (rs := [5, 8]) (by kernel_rfl) (by simp) (AllE.cons rfl (fun K hK => ?_) (AllE.cons rfl (fun K hK => ?_) AllE.nil))
      · go_simp
        (go_at_call 33; refine (HV.out w.drew pl HPL.out (show Rdr w.drew R s (pl : Nat) 0 b from HR.out) (HE.out.go ((Below.refl _ _).drew))).mono ?_; rintro e wF ⟨h', rfl, hor⟩)
        try (go_wp2_with fail)
        have HK0 := VlR.parts hor
        have HK : Kp R w wF := ⟨((Below.refl R w).drew).trans HK0.bel, HK0.size, HK0.block⟩
        have HW0 : w.heap.size ≤ w.drew.heap.size := Nat.le_refl _
        have hkz := HK.size
        have hlF : w1.heap.size ≤ wF.heap.size := by omega
        have hLF : Lb < wF.heap.size := by omega
        have hPF : Pb < wF.heap.size := by omega
        have hVF : Vb < wF.heap.size := by omega
        have hSF : SB w Lb Pb Vb wF := hS.go (B := w1.heap.size) hL hPb hVb (fun k h1 h2 => HK.block k (by omega) (by omega))
        have hboxF : wF.heap[Lb]? = some (.cells #[.slice A n c] 23 (0, 0)) := hSF.1.trans hbox
        refine hK.out _ _ (fun _ => hSF) ?_
        clear hK K
        try simp only [Act.put, List.setIfInBounds_toArray, List.set_cons_zero, List.set_cons_succ]
        refine wpAnyE_takeP (i := 6) (d := 12) (v := .agg #[.string key, .int .i64 h'.k, .int .i64 h'.n, .string h'.s, .slice h'.A h'.la h'.lc, .slice h'.F h'.lf h'.fc]) rfl (by decide) (by kernel_rfl) (by kernel_rfl) (by kernel_rfl) (fun _ _ _ h => h) (Or.inl ⟨by rfl, ?_⟩) hSF ?_
        · intro w' hw
          go_simp
        try simp only [Act.put, List.setIfInBounds_toArray, List.set_cons_zero, List.set_cons_succ]
        refine wpAnyE_all (rs := [8]) (by kernel_rfl) (by simp) (AllE.cons rfl (fun K hK => ?_) AllE.nil)
        go_simp
        have hbA := fun (o : Obj) => (Below.refl wF.heap.size wF).alloc (Nat.le_refl _) o
        have hkA : ∀ (o : Obj) k, k < wF.heap.size → (wF.alloc o).heap[k]? = wF.heap[k]? := fun o k hk => (hbA o).block k hk
        have hsA : ∀ o : Obj, wF.heap.size ≤ (wF.alloc o).heap.size := fun o => by simp
        have hbB : ∀ o : Obj, Below R wF (wF.alloc o) := fun o => (Below.refl R wF).alloc (by omega) o
        refine hK.out _ _ (fun _ => hSF.go (B := wF.heap.size) hLF hPF hVF (fun k h1 _ => hkA _ k h1)) ?_
        clear hK K
        try simp only [Act.put, List.setIfInBounds_toArray, List.set_cons_zero, List.set_cons_succ]
        refine wpAnyE_all (rs := [9]) (by kernel_rfl) (by simp) (AllE.cons rfl (fun K hK => ?_) AllE.nil)
        refine step_append_lies _ (by rfl) _ _ _ (by rfl) w1.heap.size 48 i0 _ 6 96 Tryd.underlying23 hi0 hz0 hz1 hz2 rfl (by decide) (.slice A n c) n (us.flatMap pcells) (by rfl) (HOWN.out _ (fun k h1 h2 => (hkA _ k (by omega)).trans (HK.block k h2 h1)))
          ⟨wF.heap.size, 0, none⟩ 1 1 zp (by rfl) (by rfl) (World.news_of_block (heap_alloc_new wF _)) (by simp [Value.oneCell']) (by decide) (by unfold maxLen; omega) (by omega) (Nat.le_trans hlF (hsA _)) _ rfl ?_
        intro g3 cap w4 hown3 hgrow3 hat3 hlt3
        have hpre := fin_pre (g := g3) (Lb := Lb) (cap := cap) (xs := us.flatMap pcells) (hkA _) (hsA _) (hbB _) hgrow3 hRlo hL hlF HO.out
        have hS3 : SB w Lb Pb Vb w4 := hSF.go hLF hPF hVF (fun k h1 h2 => hpre.2.2 k h1 (by intro e; have := HO.out k e; rcases h2 with h2 | h2 | h2 <;> omega))
        have y0 := newcellp hown3 HXL.out 0 (by decide)
        have y1 := newcellp hown3 HXL.out 1 (by decide)
        have y2 := newcellp hown3 HXL.out 2 (by decide)
        have y3 := newcellp hown3 HXL.out 3 (by decide)
        have y4 := newcellp hown3 HXL.out 4 (by decide)
        have y5 := newcellp hown3 HXL.out 5 (by decide)
        have yf0 := hown3.frozenAt (n * 6)
        have yf1 := hown3.frozenAt (n * 6 + 1)
        have yf2 := hown3.frozenAt (n * 6 + 2)
        have yf3 := hown3.frozenAt (n * 6 + 3)
        have yf4 := hown3.frozenAt (n * 6 + 4)
        have yf5 := hown3.frozenAt (n * 6 + 5)
        have hg3 : w1.heap.size ≤ g3 := (own_lo hown3 rfl).1
        have yL := (World.cell?_of_block (a := ⟨Lb, 0, none⟩) hS3.1).trans a0
        have yLf := (World.frozen?_of_block (a := ⟨Lb, 0, none⟩) hS3.1).trans af
        have yne : g3 ≠ Lb := by omega
        have yne2 : Lb ≠ g3 := by omega
        have yad : (⟨g3, 0, none⟩ : Addr).add (n * 6) = ⟨g3, n * 6, none⟩ := addr0 g3 (n * 6)
        simp only [Nat.add_zero, List.getElem?_cons_zero, List.getElem?_cons_succ] at y0 y1 y2 y3 y4 y5
        have FA := Lib.hid (fin_ao (u := (key, h')) (hkA _) (hsA _) (hbB _) hgrow3 hown3 HXL.out hRlo hL (Nat.le_of_lt hRL) hlF HO.out hat3 hboxF)
        have FB := Lib.hid (fin_bo (u := (key, h')) (hkA _) (hsA _) (hbB _) hgrow3 hown3 HXL.out hRlo hL (Nat.le_of_lt hRL) hlF HO.out hat3 hboxF)
        refine hK.out _ _ (fun _ => hS3) ?_
        clear hK K
        try simp only [Act.put, List.setIfInBounds_toArray, List.set_cons_zero, List.set_cons_succ]
        refine wpAnyE_takeP (i := 10) (d := 12) (v := .pointer (some ⟨g3, n * 6, none⟩)) rfl (by decide) (by kernel_rfl) (by kernel_rfl) (by kernel_rfl) (fun _ _ _ h => h) (Or.inl ⟨by rfl, ?_⟩) hS3 ?_
        · intro w' hw
          go_simp
        try simp only [Act.put, List.setIfInBounds_toArray, List.set_cons_zero, List.set_cons_succ]
        refine wpAnyE_all (rs := [11, 12]) (by kernel_rfl) (by simp) (AllE.cons rfl (fun K hK => ?_) (AllE.cons rfl (fun K hK => ?_) AllE.nil))
        · go_simp
          refine hK.out _ _ (fun _ => hS3.go (B := w1.heap.size) hL hPb hVb (fun k h1 h2 => put6_other (u := (key, h')) k (by omega))) ?_
          clear hK K
          try simp only [Act.put, List.setIfInBounds_toArray, List.set_cons_zero, List.set_cons_succ]
          refine wpAnyE_all (rs := [12]) (by kernel_rfl) (by simp) (AllE.cons rfl (fun K hK => ?_) AllE.nil)
          go_simp
          refine hK.out _ _ (fun h => by cases h) ?_
          refine wpAnyE_done (by kernel_rfl) ?_ _
          go_end0
          exact ⟨rfl, obj_end HE.out HA.out HUS.out HKS.out HKEY.out HM.out hRL hL hMb HRM.out HLM.out HW0 HK HG.out hor FA.out⟩
        · go_simp
          refine hK.out _ _ (fun h => by cases h) ?_
          clear hK K
          try simp only [Act.put, List.setIfInBounds_toArray, List.set_cons_zero, List.set_cons_succ]
          refine wpAnyE_all (rs := [11]) (by kernel_rfl) (by simp) (AllE.cons rfl (fun K hK => ?_) AllE.nil)
          go_simp
          refine hK.out _ _ (fun h => by cases h) ?_
          refine wpAnyE_done (by kernel_rfl) ?_ _
          go_end0
          exact ⟨rfl, obj_end HE.out HA.out HUS.out HKS.out HKEY.out HM.out hRL hL hMb HRM.out HLM.out HW0 HK HG.out hor FB.out⟩
      · go_simp
        obtain ⟨w0, hw0⟩ : ∃ w0, w0 = (w.alloc (Obj.cells #[.string { data := #[] }, .int .i64 0, .int .i64 0, .string { data := #[] }, .slice none 0 0, .slice none 0 0] 48)).drew := ⟨_, rfl⟩
        have hzw : w0.heap.size = w.heap.size + 1 := by rw [hw0]; exact World.size_alloc w _
        have hb0 : Below w.heap.size w w0 := by rw [hw0]; exact ((Below.refl _ _).alloc (Nat.le_refl _) _).drew
        have hn0 : w0.heap[w.heap.size]? = some (Obj.cells #[.string { data := #[] }, .int .i64 0, .int .i64 0, .string { data := #[] }, .slice none 0 0, .slice none 0 0] 48) := by rw [hw0]; exact heap_alloc_new w _
        rw [← hw0]
        clear hw0
        have hS0 : SB w Lb Pb Vb w0 := SB.go (w2 := w) ⟨rfl, rfl, rfl⟩ (B := w1.heap.size) hL hPb hVb (fun k h1 h2 => hb0.block k (by omega))
        refine hK.out _ _ (fun _ => hS0) ?_
        clear hK K
        try simp only [Act.put, List.setIfInBounds_toArray, List.set_cons_zero, List.set_cons_succ]
        refine wpAnyE_all (rs := [5]) (by kernel_rfl) (by simp) (AllE.cons rfl (fun K hK => ?_) AllE.nil)
        go_simp
        (go_at_call 33; refine (HV.out w0 pl HPL.out ((hb0.block R (by omega)).trans HR.out) (HE.out.go (hb0.mono (by omega)))).mono ?_; rintro e wF ⟨h', rfl, hor⟩)
        try (go_wp2_with fail)
        have HK0 := VlR.parts hor
        have HK : Kp R w wF := (Kp.of_below hb0 (by omega)).trans HK0
        have HW0 : w.heap.size ≤ w0.heap.size := by omega
        have hkz := HK0.size
        have hlF : w1.heap.size ≤ wF.heap.size := by omega
        have hLF : Lb < wF.heap.size := by omega
        have hPF : Pb < wF.heap.size := by omega
        have hVF : Vb < wF.heap.size := by omega
        have hSF : SB w Lb Pb Vb wF := hS0.go (B := w1.heap.size) hL hPb hVb (fun k h1 h2 => HK0.block k (by omega) (by omega))
        have hboxF : wF.heap[Lb]? = some (.cells #[.slice A n c] 23 (0, 0)) := hSF.1.trans hbox
        have hnF : wF.heap[w.heap.size]? = some (Obj.cells #[.string { data := #[] }, .int .i64 0, .int .i64 0, .string { data := #[] }, .slice none 0 0, .slice none 0 0] 48) := (HK0.block _ (by omega) (by omega)).trans hn0
        refine hK.out _ _ (fun _ => hSF) ?_
        clear hK K
        try simp only [Act.put, List.setIfInBounds_toArray, List.set_cons_zero, List.set_cons_succ]
        refine wpAnyE_takeP (i := 6) (d := 12) (v := .agg #[.string key, .int .i64 h'.k, .int .i64 h'.n, .string h'.s, .slice h'.A h'.la h'.lc, .slice h'.F h'.lf h'.fc]) rfl (by decide) (by kernel_rfl) (by kernel_rfl) (by kernel_rfl) (fun _ _ _ h => h) (Or.inl ⟨by rfl, ?_⟩) hSF ?_
        · intro w' hw
          go_simp
        try simp only [Act.put, List.setIfInBounds_toArray, List.set_cons_zero, List.set_cons_succ]
        refine wpAnyE_all (rs := [9]) (by kernel_rfl) (by simp) (AllE.cons rfl (fun K hK => ?_) AllE.nil)
        refine step_append_lies _ (by rfl) _ _ _ (by rfl) w1.heap.size 48 i0 _ 6 96 Tryd.underlying23 hi0 hz0 hz1 hz2 rfl (by decide) (.slice A n c) n (us.flatMap pcells) (by rfl) (HOWN.out _ (fun k h1 h2 => HK.block k h2 h1))
          ⟨w.heap.size, 0, none⟩ 1 1 zp (by rfl) (by rfl) (World.news_of_block hnF) (by simp [Value.oneCell']) (by decide) (by unfold maxLen; omega) (by omega) hlF _ rfl ?_
        intro g3 cap w4 hown3 hgrow3 hat3 hlt3
        have hpre := fin_pre (g := g3) (Lb := Lb) (cap := cap) (xs := us.flatMap pcells) (fun k _ => rfl) (Nat.le_refl _) (Below.refl _ _) hgrow3 hRlo hL hlF HO.out
        have hS3 : SB w Lb Pb Vb w4 := hSF.go hLF hPF hVF (fun k h1 h2 => hpre.2.2 k h1 (by intro e; have := HO.out k e; rcases h2 with h2 | h2 | h2 <;> omega))
        have y0 := newcellp hown3 HXL.out 0 (by decide)
        have y1 := newcellp hown3 HXL.out 1 (by decide)
        have y2 := newcellp hown3 HXL.out 2 (by decide)
        have y3 := newcellp hown3 HXL.out 3 (by decide)
        have y4 := newcellp hown3 HXL.out 4 (by decide)
        have y5 := newcellp hown3 HXL.out 5 (by decide)
        have yf0 := hown3.frozenAt (n * 6)
        have yf1 := hown3.frozenAt (n * 6 + 1)
        have yf2 := hown3.frozenAt (n * 6 + 2)
        have yf3 := hown3.frozenAt (n * 6 + 3)
        have yf4 := hown3.frozenAt (n * 6 + 4)
        have yf5 := hown3.frozenAt (n * 6 + 5)
        have hg3 : w1.heap.size ≤ g3 := (own_lo hown3 rfl).1
        have yL := (World.cell?_of_block (a := ⟨Lb, 0, none⟩) hS3.1).trans a0
        have yLf := (World.frozen?_of_block (a := ⟨Lb, 0, none⟩) hS3.1).trans af
        have yne : g3 ≠ Lb := by omega
        have yne2 : Lb ≠ g3 := by omega
        have yad : (⟨g3, 0, none⟩ : Addr).add (n * 6) = ⟨g3, n * 6, none⟩ := addr0 g3 (n * 6)
        simp only [Nat.add_zero, List.getElem?_cons_zero, List.getElem?_cons_succ] at y0 y1 y2 y3 y4 y5
        have FA := Lib.hid (fin_ao (u := (key, h')) (fun k _ => rfl) (Nat.le_refl _) (Below.refl _ _) hgrow3 hown3 HXL.out hRlo hL (Nat.le_of_lt hRL) hlF HO.out hat3 hboxF)
        have FB := Lib.hid (fin_bo (u := (key, h')) (fun k _ => rfl) (Nat.le_refl _) (Below.refl _ _) hgrow3 hown3 HXL.out hRlo hL (Nat.le_of_lt hRL) hlF HO.out hat3 hboxF)
        refine hK.out _ _ (fun _ => hS3) ?_
        clear hK K
        try simp only [Act.put, List.setIfInBounds_toArray, List.set_cons_zero, List.set_cons_succ]
        refine wpAnyE_takeP (i := 10) (d := 12) (v := .pointer (some ⟨g3, n * 6, none⟩)) rfl (by decide) (by kernel_rfl) (by kernel_rfl) (by kernel_rfl) (fun _ _ _ h => h) (Or.inl ⟨by rfl, ?_⟩) hS3 ?_
        · intro w' hw
          go_simp
        try simp only [Act.put, List.setIfInBounds_toArray, List.set_cons_zero, List.set_cons_succ]
        refine wpAnyE_all (rs := [11, 12]) (by kernel_rfl) (by simp) (AllE.cons rfl (fun K hK => ?_) (AllE.cons rfl (fun K hK => ?_) AllE.nil))
        · go_simp
          refine hK.out _ _ (fun _ => hS3.go (B := w1.heap.size) hL hPb hVb (fun k h1 h2 => put6_other (u := (key, h')) k (by omega))) ?_
          clear hK K
          try simp only [Act.put, List.setIfInBounds_toArray, List.set_cons_zero, List.set_cons_succ]
          refine wpAnyE_all (rs := [12]) (by kernel_rfl) (by simp) (AllE.cons rfl (fun K hK => ?_) AllE.nil)
          go_simp
          refine hK.out _ _ (fun h => by cases h) ?_
          refine wpAnyE_done (by kernel_rfl) ?_ _
          go_end0
          exact ⟨rfl, obj_end HE.out HA.out HUS.out HKS.out HKEY.out HM.out hRL hL hMb HRM.out HLM.out HW0 HK HG.out hor FA.out⟩
        · go_simp
          refine hK.out _ _ (fun h => by cases h) ?_
          clear hK K
          try simp only [Act.put, List.setIfInBounds_toArray, List.set_cons_zero, List.set_cons_succ]
          refine wpAnyE_all (rs := [11]) (by kernel_rfl) (by simp) (AllE.cons rfl (fun K hK => ?_) AllE.nil)
          go_simp
          refine hK.out _ _ (fun h => by cases h) ?_
          refine wpAnyE_done (by kernel_rfl) ?_ _
          go_end0
          exact ⟨rfl, obj_end HE.out HA.out HUS.out HKS.out HKEY.out HM.out hRL hL hMb HRM.out HLM.out HW0 HK HG.out hor FB.out⟩
    · have hcol : sgn s (p + qn) sColon = false := by simpa using hcol
      have K2 := Lib.hid (must_no R s sColon (p + qn) b w2 hr2 hq1 hs hcol)
      have HG := Lib.hid (stepO_no (vl := vl) (acc := acc) HP.out HQN.out HQE.out HQT.out hnk hcol)
      have hbp := blk_le hq1
      clear hcol hr2 HCS hnk
      go_wp2_with fail
      refine K2.out.mono ?_
      rintro e2 w3 ⟨rfl, h3⟩
      have H3 := Lib.hid h3
      have hA3 := HA2.out.rd (fun k h1 _ h2 => hX k h1 h2) (by omega) hRlo hL h3.2
      have HZ := Lib.hid hA3.bad
      obtain ⟨a1, a2, a3⟩ := HB1.out w3 hA3.blk
      have d2 := h3.1.c2
      clear h3 K2 c1 c2 c3 hA3
      go_wp2_with fail
      go_end0
      refine ⟨rfl, ?_⟩
      rw [HG.out]
      exact ⟨by decide, ⟨HE2.out.rd H3.out, HZ.out⟩, _, hbp, H3.out.1⟩
  · have HB2 : Hid (∃ (er bd a' : Nat), er ≠ 0 ∧ a' ≤ s.size ∧ Rdr w2 R s (a' : Nat) (er : Nat) (bd : Nat) ∧ stepO vl s (ks, acc) i = .inr ((er : Nat), bd)) := Lib.hid (by
      rcases HCS.out with ⟨h0, _, h1, _⟩ | ⟨h0, h1, a', ha, hr⟩ | ⟨h0, a', ha, hr⟩
      · exact absurd ⟨h0, h1⟩ hgood
      · exact ⟨7, p, a', by decide, ha, hr, stepO_dup HP.out (HQE.out.trans h0) HQT.out h1⟩
      · exact ⟨qe, p + qn, a', h0, ha, hr, stepO_bad HP.out HQN.out HQE.out h0⟩)
    obtain ⟨er, bd, a', h0, ha, hr, hG⟩ := HB2.out
    have HG := Lib.hid hG
    have H0 := Lib.hid h0
    have K2 := Lib.hid (must_bad R s sColon a' er bd w2 hr (by omega) ha hs)
    have hez : (((er : Nat) : Int) == 0) = false := by simpa using h0
    clear hG hr HB2 hgood HCS HBAD h0
    go_wp2_with fail
    refine K2.out.mono ?_
    rintro e2 w3 ⟨rfl, a4, ha4, h3⟩
    have H3 := Lib.hid h3
    have hA3 := HA2.out.rd (fun k h1 _ h2 => hX k h1 h2) (by omega) hRlo hL h3.2
    have HZ := Lib.hid hA3.bad
    obtain ⟨a1, a2, a3⟩ := HB1.out w3 hA3.blk
    have d2 := h3.1.c2
    clear h3 K2 c1 c2 c3 hA3
    go_wp2_with fail
    go_end0
    refine ⟨rfl, ?_⟩
    rw [HG.out]
    exact ⟨by have := H0.out; omega, ⟨HE2.out.rd H3.out, HZ.out⟩, a4, ha4, H3.out.1⟩
end Go.Proofs.YtbinmhcjadkmgaaDoor

/- cascade/json's reader: what lies between two signs (object$1). -/
set_option linter.unusedVariables false
set_option linter.unusedSimpArgs false
namespace Go.Proofs.YtbinmhcjadkmgaaDoor
open Go.RowKit
set_option maxHeartbeats 4000000 in
set_option maxRecDepth 100000 in
theorem members_obj {σ : Type} (Inv : World → σ → Prop) (Bad : World → Prop) (len : σ → Nat) (step : Stp σ) (R q0 q1 q2 q3 p : Nat) (s bg en : ByteArray) (b : Int) (x : σ) (w : World)
    (hst : ∀ w w' y a e b, Inv w y → RdP R w s a e b w' → Inv w' y) (hstB : ∀ w w' a e b, Bad w → RdP R w s a e b w' → Bad w') (hIB : ∀ w y, Inv w y → Bad w) (hin : ∀ y i, i ≤ s.size → SIn s i (step y i))
    (hlen : ∀ y i z j, step y i = .inl (z, j) → len z ≤ len y + 1) (hlx : len x = 0)
    (hone : ∀ w y i, Rdr w R s (i : Nat) 0 b → i ≤ s.size → len y ≤ i → Inv w y → Calls Tryd.prog 66 #[.pointer (some ⟨q0, 0, none⟩), .pointer (some ⟨q1, 0, none⟩), .pointer (some ⟨q2, 0, none⟩), .pointer (some ⟨q3, 0, none⟩)] w fun e w' => e = .returned (.tuple #[]) ∧ OneP R s b Inv Bad (step y i) w')
    (h : Rdr w R s p 0 b) (hs : s.size ≤ 1000000) (hp : p ≤ s.size) (hbp : blk s p = p) (hsg : sgn s p bg = true) (hb1 : bg.size = 1) (he1 : en.size = 1) (hI : Inv w x) :
    Calls Tryd.prog 64 #[.pointer (some ⟨R, 0, none⟩), .string bg, .string en, .func (.func 66) #[] #[.pointer (some ⟨q0, 0, none⟩), .pointer (some ⟨q1, 0, none⟩), .pointer (some ⟨q2, 0, none⟩), .pointer (some ⟨q3, 0, none⟩)]] w fun e w' => e = .returned (.tuple #[]) ∧ OneP R s b Inv Bad (memG step s en p x) w' := by
  have HST := Lib.hid hst
  have HSTB := Lib.hid hstB
  have HIB := Lib.hid hIB
  have HIN := Lib.hid hin
  have HONE := Lib.hid hone
  have HLEN := Lib.hid hlen
  have HLX := Lib.hid hlx
  have HI := Lib.hid hI
  have K1 := Lib.hid (must_yes R s bg p 0 b w h hp hs hsg)
  rw [hbp, hb1] at K1
  have hp1 : p + 1 ≤ s.size := by have := sgn_in hsg hp; omega
  clear hst hstB hIB hin hone hI hlen hlx h hsg hbp hb1
  go_enter Tryd.func64, Tryd.ntmps64
  go_wp2_with fail
  refine K1.out.mono ?_
  rintro e1 w1 ⟨rfl, h1⟩
  have H1 := Lib.hid h1
  have HI1 := Lib.hid (HST.out _ _ _ _ _ _ HI.out h1)
  clear h1 K1
  have hbl := blk_le hp1
  by_cases hse : sgn s (p + 1) en = true
  · have K2 := Lib.hid (sign_yes R s en (p + 1) 0 b w1 H1.out.1 hp1 hs hse)
    rw [he1] at K2
    have HG : Hid (memG step s en p x = .inl (x, blk s (p + 1) + 1)) := Lib.hid (by unfold memG; rw [if_pos hse])
    clear hse
    go_wp2_with fail
    refine K2.out.mono ?_
    rintro e2 w2 ⟨rfl, h2⟩
    have H2 := Lib.hid h2
    clear h2
    go_wp2_with fail
    refine bodyPost_ret (results_none rfl _ _ _) rfl ?_
    refine ⟨rfl, ?_⟩
    rw [HG.out]
    exact ⟨H2.out.1, HST.out _ _ _ _ _ _ HI1.out H2.out⟩
  have hse : sgn s (p + 1) en = false := by simpa using hse
  have K2 := Lib.hid (sign_no R s en (p + 1) 0 b w1 H1.out.1 hp1 hs hse)
  have HG : Hid (memG step s en p x = loopG step s en (s.size + 1) (blk s (p + 1)) x) := Lib.hid (by unfold memG; rw [hse]; rfl)
  clear hse
  go_wp2_with fail
  refine K2.out.mono ?_
  rintro e2 w2 ⟨rfl, h2⟩
  have H2 := Lib.hid h2
  have HI2 := Lib.hid (HST.out _ _ _ _ _ _ HI1.out h2)
  clear h2 K2
  go_wp2_with fail
  refine (HONE.out w2 x (blk s (p + 1)) H2.out.1 hbl (by rw [HLX.out]; exact Nat.zero_le _) HI2.out).mono ?_
  rintro e3 w3 ⟨rfl, h3⟩
  have HL := Lib.hid (loop_start (len := len) HIN.out HG.out hbl HLEN.out (by rw [HLX.out]; exact Nat.zero_le _) h3)
  clear h3
  go_wp2_with fail
  go_loopw [] (fun wr => LoopS len step s en R b Inv Bad (memG step s en p x) wr) (fun wr => mesJ R s wr)
  case atStart => exact HL.out
  case round =>
    rcases hrel with ⟨f, j, y, hr, hI3, hj, hf, hlj, hG⟩ | ⟨er, bd, a', he, hB, ha, hr, hG⟩
    · have HR := Lib.hid hr
      have HI3 := Lib.hid hI3
      have HG3 := Lib.hid hG
      have c2 := hr.c2
      have hm : mesJ R s wr = s.size + 2 - j := mes_ok hr
      have HM := Lib.hid hm
      clear hr hI3 hG hm
      by_cases hsc : sgn s j sComma = true
      · have K3 := Lib.hid (sign_yes R s sComma j 0 b wr HR.out hj hs hsc)
        have hj1 : blk s j + 1 ≤ s.size := sgn_in hsc hj
        have hge := blk_ge s j
        have HN := Lib.hid (loop_yes hsc HG3.out)
        clear hsc
        go_wp2_with fail
        refine K3.out.mono ?_
        rintro e4 w4 ⟨rfl, h4⟩
        have H4 := Lib.hid h4
        have HI4 := Lib.hid (HST.out _ _ _ _ _ _ HI3.out h4)
        clear h4 K3 c2
        go_wp2_with fail
        refine (HONE.out w4 y (blk s j + 1) H4.out.1 hj1 (by omega) HI4.out).mono ?_
        rintro e5 w5 ⟨rfl, h5⟩
        have HL5 := Lib.hid (loop_next (len := len) HIN.out HN.out hf hge hj1 HLEN.out hlj h5)
        clear h5
        go_wp2_with fail
        refine ⟨HL5.out.1, ?_⟩
        rw [HM.out]
        exact HL5.out.2
      · have hsc : sgn s j sComma = false := by simpa using hsc
        have K3 := Lib.hid (sign_no R s sComma j 0 b wr HR.out hj hs hsc)
        have hbj := blk_le hj
        have HN := Lib.hid (loop_no hsc HG3.out)
        clear hsc
        go_wp2_with fail
        refine K3.out.mono ?_
        rintro e4 w4 ⟨rfl, h4⟩
        have H4 := Lib.hid h4
        have HI4 := Lib.hid (HST.out _ _ _ _ _ _ HI3.out h4)
        clear h4 K3 c2
        by_cases hen : sgn s j en = true
        · have K5 := Lib.hid (must_yes R s en (blk s j) 0 b w4 H4.out.1 hbj hs (by rw [sgn_idem]; exact hen))
          rw [blk_idem, he1] at K5
          have HN2 := Lib.hid (HN.out.symm.trans (if_pos hen))
          clear hen
          go_wp2_with fail
          refine K5.out.mono ?_
          rintro e5 w5 ⟨rfl, h5⟩
          have H5 := Lib.hid h5
          clear h5
          go_wp2_with fail
          go_end0
          refine ⟨rfl, ?_⟩
          rw [HN2.out]
          exact ⟨H5.out.1, HST.out _ _ _ _ _ _ HI4.out H5.out⟩
        · have hen : sgn s j en = false := by simpa using hen
          have K5 := Lib.hid (must_no R s en (blk s j) b w4 H4.out.1 hbj hs (by rw [sgn_idem]; exact hen))
          rw [blk_idem] at K5
          have HN2 := Lib.hid (HN.out.symm.trans (by rw [hen] <;> rfl))
          clear hen
          go_wp2_with fail
          refine K5.out.mono ?_
          rintro e5 w5 ⟨rfl, h5⟩
          have H5 := Lib.hid h5
          clear h5
          go_wp2_with fail
          go_end0
          refine ⟨rfl, ?_⟩
          rw [HN2.out]
          exact ⟨by decide, HSTB.out _ _ _ _ _ (HIB.out _ _ HI4.out) H5.out, blk s j, hbj, H5.out.1⟩
    · have HR := Lib.hid hr
      have HB := Lib.hid hB
      have HG3 := Lib.hid hG
      have HE := Lib.hid he
      have c2 := hr.c2
      have hez : (er == 0) = false := by simpa using he
      have K3 := Lib.hid (must_bad R s en a' er bd wr hr he ha hs)
      clear hr hB hG he
      go_wp2_with fail
      refine K3.out.mono ?_
      rintro e4 w4 ⟨rfl, a4, ha4, h4⟩
      have H4 := Lib.hid h4
      clear h4 K3 c2
      go_wp2_with fail
      go_end0
      refine ⟨rfl, ?_⟩
      rw [HG3.out]
      exact ⟨HE.out, HSTB.out _ _ _ _ _ HB.out H4.out, a4, ha4, H4.out.1⟩
end Go.Proofs.YtbinmhcjadkmgaaDoor

/- cascade/json's reader: one value of a list, walked. -/
set_option linter.unusedVariables false
set_option linter.unusedSimpArgs false
namespace Go.Proofs.YtbinmhcjadkmgaaDoor
open Go.RowKit
set_option maxHeartbeats 4000000 in
set_option maxRecDepth 100000 in
theorem one_list (R Lb Pb Vb i : Nat) (s : ByteArray) (lv b : Int) (vl : Nat → Got) (acc : List Va) (w1 w : World) (hlv : IntKind.i64.wrap (lv + 1) = lv + 1) (hlen : acc.length ≤ 1000000)
    (hRL : R < Lb) (hRP : R < Pb) (hRV : R < Vb) (hL : Lb < w1.heap.size) (hPb : Pb < w1.heap.size) (hVb : Vb < w1.heap.size) (hLP : Pb ≠ Lb) (hLV : Vb ≠ Lb)
    (hP1 : w1.cell? ⟨Pb, 0, none⟩ = some (.pointer (some ⟨R, 0, none⟩))) (hV1 : w1.cell? ⟨Vb, 0, none⟩ = some (.int .i64 lv))
    (h : Rdr w R s (i : Nat) 0 b) (hI : InvLs w1 R Lb w acc)
    (hV : ∀ w2, Rdr w2 R s (i : Nat) 0 b → EV R w2 → Calls Tryd.prog 33 #[.pointer (some ⟨R, 0, none⟩), .int .i64 (lv + 1)] w2 fun e w' => VlR R s b (vl i) w2 e w') :
    Calls Tryd.prog 65 #[.pointer (some ⟨Lb, 0, none⟩), .pointer (some ⟨Pb, 0, none⟩), .pointer (some ⟨Vb, 0, none⟩)] w fun e w' => e = .returned (.tuple #[]) ∧ OneP R s b (InvLs w1 R Lb) (BadLs w1 R Lb) (stepL vl acc i) w' := by
  obtain ⟨i0, hi0, hz0, hz1, hz2⟩ := info_parts jinfo25
  obtain ⟨hE, us, A, n, c, hA⟩ := hI
  have HE := Lib.hid hE
  have HA := Lib.hid hA
  have HV := Lib.hid hV
  have HR := Lib.hid h
  have hn : n ≤ 1000000 := by have := hA.lenA; omega
  have hsz := hA.sz
  have hbox := hA.box
  have a0 : w.cell? ⟨Lb, 0, none⟩ = some (.slice A n c) := Lib.cell_of_heap hbox 0
  have af : w.frozen? ⟨Lb, 0, none⟩ = false := Lib.frozen_of_heap hbox 0
  have a1 : w.cell? ⟨Pb, 0, none⟩ = some (.pointer (some ⟨R, 0, none⟩)) := (World.cell?_of_block (a := ⟨Pb, 0, none⟩) (hA.blk Pb hPb (fun e => by rcases e with e | e <;> omega))).trans hP1
  have a2 : w.cell? ⟨Vb, 0, none⟩ = some (.int .i64 lv) := (World.cell?_of_block (a := ⟨Vb, 0, none⟩) (hA.blk Vb hVb (fun e => by rcases e with e | e <;> omega))).trans hV1
  have hS : SB w Lb Pb Vb w.drew := ⟨rfl, rfl, rfl⟩
  have HOWN := Lib.hid (show ∀ w' : World, (∀ k, k < w.heap.size → k ≠ R → w'.heap[k]? = w.heap[k]?) → w'.ownsRow w1.heap.size 25 5 (.slice A n c) n (us.flatMap Hd.cells) from fun w' hk => own_block hA.own fun g hg => hk g (own_lo hA.own hg).2 (by have := (own_lo hA.own hg).1; omega))
  have HO := Lib.hid (show ∀ k, (Value.slice A n c).ownBlock = some k → w1.heap.size ≤ k from fun k hk => (own_lo hA.own hk).1)
  have HXL := Lib.hid (show (us.flatMap Hd.cells).length = n * 5 from hA.own.1)
  have hRlo : R < w1.heap.size := by omega
  have hni : (n : Int) < ((n + 1 : Nat) : Int) := by omega
  have hnn : n < n + 1 := by omega
  have h0n : (0 : Int) ≤ (n : Int) := by omega
  have hn1 : (n : Int) < (n : Int) + 1 := by omega
  clear hE hA hV h hP1 hV1
  go_enter Tryd.func65, Tryd.ntmps65
  go_wp2_with fail
  refine wp_region_E (S := SB w Lb Pb Vb) (d := 10) (by kernel_rfl) ?_
  refine wpAnyE_take (i := 0) (d := 10) (v := .slice A n c) rfl rfl (by kernel_rfl) (by decide) (by kernel_rfl) (by kernel_rfl) (by kernel_rfl) (by kernel_rfl) (fun _ _ _ h => h) (Or.inl ⟨by rfl, ?_⟩) hS ?_
  · intro w' hw
    have q0 := (World.cell?_of_block (a := ⟨Lb, 0, none⟩) hw.1).trans a0
    have q1 := (World.cell?_of_block (a := ⟨Pb, 0, none⟩) hw.2.1).trans a1
    have q2 := (World.cell?_of_block (a := ⟨Vb, 0, none⟩) hw.2.2).trans a2
    go_simp
  try simp only [Act.put, List.setIfInBounds_toArray, List.set_cons_zero, List.set_cons_succ]
  refine wpAnyE_take (i := 1) (d := 10) (v := .pointer (some ⟨R, 0, none⟩)) rfl rfl (by kernel_rfl) (by decide) (by kernel_rfl) (by kernel_rfl) (by kernel_rfl) (by kernel_rfl) (fun _ _ _ h => h) (Or.inl ⟨by rfl, ?_⟩) hS ?_
  · intro w' hw
    have q0 := (World.cell?_of_block (a := ⟨Lb, 0, none⟩) hw.1).trans a0
    have q1 := (World.cell?_of_block (a := ⟨Pb, 0, none⟩) hw.2.1).trans a1
    have q2 := (World.cell?_of_block (a := ⟨Vb, 0, none⟩) hw.2.2).trans a2
    go_simp
  try simp only [Act.put, List.setIfInBounds_toArray, List.set_cons_zero, List.set_cons_succ]
  refine wpAnyE_take (i := 2) (d := 10) (v := .int .i64 lv) rfl rfl (by kernel_rfl) (by decide) (by kernel_rfl) (by kernel_rfl) (by kernel_rfl) (by kernel_rfl) (fun _ _ _ h => h) (Or.inl ⟨by rfl, ?_⟩) hS ?_
  · intro w' hw
    have q0 := (World.cell?_of_block (a := ⟨Lb, 0, none⟩) hw.1).trans a0
    have q1 := (World.cell?_of_block (a := ⟨Pb, 0, none⟩) hw.2.1).trans a1
    have q2 := (World.cell?_of_block (a := ⟨Vb, 0, none⟩) hw.2.2).trans a2
    go_simp
  try simp only [Act.put, List.setIfInBounds_toArray, List.set_cons_zero, List.set_cons_succ]
  refine wpAnyE_take (i := 3) (d := 10) (v := .int .i64 (lv + 1)) rfl rfl (by kernel_rfl) (by decide) (by kernel_rfl) (by kernel_rfl) (by kernel_rfl) (by kernel_rfl) (fun _ _ _ h => h) (Or.inl ⟨by rfl, ?_⟩) hS ?_
  · intro w' hw
    go_simp
  try simp only [Act.put, List.setIfInBounds_toArray, List.set_cons_zero, List.set_cons_succ]
  refine wpAnyE_take (i := 5) (d := 10) (v := .int .i64 n) rfl rfl (by kernel_rfl) (by decide) (by kernel_rfl) (by kernel_rfl) (by kernel_rfl) (by kernel_rfl) (fun _ _ _ h => h) (Or.inl ⟨by rfl, ?_⟩) hS ?_
  · intro w' hw
    go_simp
  try simp only [Act.put, List.setIfInBounds_toArray, List.set_cons_zero, List.set_cons_succ]
  refine wpAnyE_all (rs := [4, 6]) (by kernel_rfl) (by simp) (AllE.cons rfl (fun K hK => ?_) (AllE.cons rfl (fun K hK => ?_) AllE.nil))
  · go_simp
    (go_at_call 33; refine (HV.out _ (show Rdr w.drew R s (i : Nat) 0 b from HR.out) (HE.out.go ((Below.refl _ _).drew))).mono ?_; rintro e wF ⟨h', rfl, hor⟩)
    try (go_wp2_with fail)
    have HK0 := VlR.parts hor
    have HK : Kp R w wF := ⟨((Below.refl R w).drew).trans HK0.bel, HK0.size, HK0.block⟩
    have HW0 : w.heap.size ≤ w.drew.heap.size := Nat.le_refl _
    have hkz := HK.size
    have hlF : w1.heap.size ≤ wF.heap.size := by omega
    have hLF : Lb < wF.heap.size := by omega
    have hPF : Pb < wF.heap.size := by omega
    have hVF : Vb < wF.heap.size := by omega
    have hSF : SB w Lb Pb Vb wF := hS.go (B := w1.heap.size) hL hPb hVb (fun k h1 h2 => HK.block k (by omega) (by omega))
    have hboxF : wF.heap[Lb]? = some (.cells #[.slice A n c] 22 (0, 0)) := hSF.1.trans hbox
    refine hK.out _ _ (fun _ => hSF) ?_
    clear hK K
    try simp only [Act.put, List.setIfInBounds_toArray, List.set_cons_zero, List.set_cons_succ]
    refine wpAnyE_all (rs := [6]) (by kernel_rfl) (by simp) (AllE.cons rfl (fun K hK => ?_) AllE.nil)
    go_simp
    have hbA := fun (o : Obj) => (Below.refl wF.heap.size wF).alloc (Nat.le_refl _) o
    have hkA : ∀ (o : Obj) k, k < wF.heap.size → (wF.alloc o).heap[k]? = wF.heap[k]? := fun o k hk => (hbA o).block k hk
    have hsA : ∀ o : Obj, wF.heap.size ≤ (wF.alloc o).heap.size := fun o => by simp
    have hbB : ∀ o : Obj, Below R wF (wF.alloc o) := fun o => (Below.refl R wF).alloc (by omega) o
    refine hK.out _ _ (fun _ => hSF.go (B := wF.heap.size) hLF hPF hVF (fun k h1 _ => hkA _ k h1)) ?_
    clear hK K
    try simp only [Act.put, List.setIfInBounds_toArray, List.set_cons_zero, List.set_cons_succ]
    refine wpAnyE_all (rs := [7]) (by kernel_rfl) (by simp) (AllE.cons rfl (fun K hK => ?_) AllE.nil)
    refine step_append_lies _ (by rfl) _ _ _ (by rfl) w1.heap.size 25 i0 _ 5 80 Tryd.underlying22 hi0 hz0 hz1 hz2 rfl (by decide) (.slice A n c) n (us.flatMap Hd.cells) (by rfl) (HOWN.out _ (fun k h1 h2 => (hkA _ k (by omega)).trans (HK.block k h2 h1)))
      ⟨wF.heap.size, 0, none⟩ 1 1 zc (by rfl) (by rfl) (World.news_of_block (heap_alloc_new wF _)) (by simp [Value.oneCell']) (by decide) (by unfold maxLen; omega) (by omega) (Nat.le_trans hlF (hsA _)) _ rfl ?_
    intro g3 cap w3 hown3 hgrow3 hat3 hlt3
    have hpre := fin_pre (g := g3) (Lb := Lb) (cap := cap) (xs := us.flatMap Hd.cells) (hkA _) (hsA _) (hbB _) hgrow3 hRlo hL hlF HO.out
    have hS3 : SB w Lb Pb Vb w3 := hSF.go hLF hPF hVF (fun k h1 h2 => hpre.2.2 k h1 (by intro e; have := HO.out k e; rcases h2 with h2 | h2 | h2 <;> omega))
    have y0 := newcell hown3 HXL.out 0 (by decide)
    have y1 := newcell hown3 HXL.out 1 (by decide)
    have y2 := newcell hown3 HXL.out 2 (by decide)
    have y3 := newcell hown3 HXL.out 3 (by decide)
    have y4 := newcell hown3 HXL.out 4 (by decide)
    have yf0 := hown3.frozenAt (n * 5)
    have yf1 := hown3.frozenAt (n * 5 + 1)
    have yf2 := hown3.frozenAt (n * 5 + 2)
    have yf3 := hown3.frozenAt (n * 5 + 3)
    have yf4 := hown3.frozenAt (n * 5 + 4)
    have hg3 : w1.heap.size ≤ g3 := (own_lo hown3 rfl).1
    have yL := (World.cell?_of_block (a := ⟨Lb, 0, none⟩) hS3.1).trans a0
    have yLf := (World.frozen?_of_block (a := ⟨Lb, 0, none⟩) hS3.1).trans af
    have yne : g3 ≠ Lb := by omega
    have yne2 : Lb ≠ g3 := by omega
    have yad : (⟨g3, 0, none⟩ : Addr).add (n * 5) = ⟨g3, n * 5, none⟩ := addr0 g3 (n * 5)
    simp only [Nat.add_zero, List.getElem?_cons_zero, List.getElem?_cons_succ] at y0 y1 y2 y3 y4
    have FA := Lib.hid (fin_a (u := h') (hkA _) (hsA _) (hbB _) hgrow3 hown3 HXL.out hRlo hL (Nat.le_of_lt hRL) hlF HO.out hat3 hboxF)
    have FB := Lib.hid (fin_b (u := h') (hkA _) (hsA _) (hbB _) hgrow3 hown3 HXL.out hRlo hL (Nat.le_of_lt hRL) hlF HO.out hat3 hboxF)
    refine hK.out _ _ (fun _ => hS3) ?_
    clear hK K
    try simp only [Act.put, List.setIfInBounds_toArray, List.set_cons_zero, List.set_cons_succ]
    refine wpAnyE_takeP (i := 8) (d := 10) (v := .pointer (some ⟨g3, n * 5, none⟩)) rfl (by decide) (by kernel_rfl) (by kernel_rfl) (by kernel_rfl) (fun _ _ _ h => h) (Or.inl ⟨by rfl, ?_⟩) hS3 ?_
    · intro w' hw
      go_simp
    try simp only [Act.put, List.setIfInBounds_toArray, List.set_cons_zero, List.set_cons_succ]
    refine wpAnyE_all (rs := [9, 10]) (by kernel_rfl) (by simp) (AllE.cons rfl (fun K hK => ?_) (AllE.cons rfl (fun K hK => ?_) AllE.nil))
    · go_simp
      refine hK.out _ _ (fun _ => hS3.go (B := w1.heap.size) hL hPb hVb (fun k h1 h2 => put5_other (u := h') k (by omega))) ?_
      clear hK K
      try simp only [Act.put, List.setIfInBounds_toArray, List.set_cons_zero, List.set_cons_succ]
      refine wpAnyE_all (rs := [10]) (by kernel_rfl) (by simp) (AllE.cons rfl (fun K hK => ?_) AllE.nil)
      go_simp
      refine hK.out _ _ (fun h => by cases h) ?_
      refine wpAnyE_done (by kernel_rfl) ?_ _
      go_end0
      exact ⟨rfl, list_end HE.out HA.out hRL hL HW0 HK hor FA.out⟩
    · go_simp
      refine hK.out _ _ (fun h => by cases h) ?_
      clear hK K
      try simp only [Act.put, List.setIfInBounds_toArray, List.set_cons_zero, List.set_cons_succ]
      refine wpAnyE_all (rs := [9]) (by kernel_rfl) (by simp) (AllE.cons rfl (fun K hK => ?_) AllE.nil)
      go_simp
      refine hK.out _ _ (fun h => by cases h) ?_
      refine wpAnyE_done (by kernel_rfl) ?_ _
      go_end0
      exact ⟨rfl, list_end HE.out HA.out hRL hL HW0 HK hor FB.out⟩
  · go_simp
    obtain ⟨w0, hw0⟩ : ∃ w0, w0 = (w.alloc (Obj.cells #[.int .i64 0, .int .i64 0, .string { data := #[] }, .slice none 0 0, .slice none 0 0] 25)).drew := ⟨_, rfl⟩
    have hzw : w0.heap.size = w.heap.size + 1 := by rw [hw0]; exact World.size_alloc w _
    have hb0 : Below w.heap.size w w0 := by rw [hw0]; exact ((Below.refl _ _).alloc (Nat.le_refl _) _).drew
    have hn0 : w0.heap[w.heap.size]? = some (Obj.cells #[.int .i64 0, .int .i64 0, .string { data := #[] }, .slice none 0 0, .slice none 0 0] 25) := by rw [hw0]; exact heap_alloc_new w _
    rw [← hw0]
    clear hw0
    have hS0 : SB w Lb Pb Vb w0 := SB.go (w2 := w) ⟨rfl, rfl, rfl⟩ (B := w1.heap.size) hL hPb hVb (fun k h1 h2 => hb0.block k (by omega))
    refine hK.out _ _ (fun _ => hS0) ?_
    clear hK K
    try simp only [Act.put, List.setIfInBounds_toArray, List.set_cons_zero, List.set_cons_succ]
    refine wpAnyE_all (rs := [4]) (by kernel_rfl) (by simp) (AllE.cons rfl (fun K hK => ?_) AllE.nil)
    go_simp
    (go_at_call 33; refine (HV.out _ ((hb0.block R (by omega)).trans HR.out) (HE.out.go (hb0.mono (by omega)))).mono ?_; rintro e wF ⟨h', rfl, hor⟩)
    try (go_wp2_with fail)
    have HK0 := VlR.parts hor
    have HK : Kp R w wF := (Kp.of_below hb0 (by omega)).trans HK0
    have HW0 : w.heap.size ≤ w0.heap.size := by omega
    have hkz := HK0.size
    have hlF : w1.heap.size ≤ wF.heap.size := by omega
    have hLF : Lb < wF.heap.size := by omega
    have hPF : Pb < wF.heap.size := by omega
    have hVF : Vb < wF.heap.size := by omega
    have hSF : SB w Lb Pb Vb wF := hS0.go (B := w1.heap.size) hL hPb hVb (fun k h1 h2 => HK0.block k (by omega) (by omega))
    have hboxF : wF.heap[Lb]? = some (.cells #[.slice A n c] 22 (0, 0)) := hSF.1.trans hbox
    have hnF : wF.heap[w.heap.size]? = some (Obj.cells #[.int .i64 0, .int .i64 0, .string { data := #[] }, .slice none 0 0, .slice none 0 0] 25) := (HK0.block _ (by omega) (by omega)).trans hn0
    refine hK.out _ _ (fun _ => hSF) ?_
    clear hK K
    try simp only [Act.put, List.setIfInBounds_toArray, List.set_cons_zero, List.set_cons_succ]
    refine wpAnyE_all (rs := [7]) (by kernel_rfl) (by simp) (AllE.cons rfl (fun K hK => ?_) AllE.nil)
    refine step_append_lies _ (by rfl) _ _ _ (by rfl) w1.heap.size 25 i0 _ 5 80 Tryd.underlying22 hi0 hz0 hz1 hz2 rfl (by decide) (.slice A n c) n (us.flatMap Hd.cells) (by rfl) (HOWN.out _ (fun k h1 h2 => HK.block k h2 h1))
      ⟨w.heap.size, 0, none⟩ 1 1 zc (by rfl) (by rfl) (World.news_of_block hnF) (by simp [Value.oneCell']) (by decide) (by unfold maxLen; omega) (by omega) hlF _ rfl ?_
    intro g3 cap w3 hown3 hgrow3 hat3 hlt3
    have hpre := fin_pre (g := g3) (Lb := Lb) (cap := cap) (xs := us.flatMap Hd.cells) (fun k _ => rfl) (Nat.le_refl _) (Below.refl _ _) hgrow3 hRlo hL hlF HO.out
    have hS3 : SB w Lb Pb Vb w3 := hSF.go hLF hPF hVF (fun k h1 h2 => hpre.2.2 k h1 (by intro e; have := HO.out k e; rcases h2 with h2 | h2 | h2 <;> omega))
    have y0 := newcell hown3 HXL.out 0 (by decide)
    have y1 := newcell hown3 HXL.out 1 (by decide)
    have y2 := newcell hown3 HXL.out 2 (by decide)
    have y3 := newcell hown3 HXL.out 3 (by decide)
    have y4 := newcell hown3 HXL.out 4 (by decide)
    have yf0 := hown3.frozenAt (n * 5)
    have yf1 := hown3.frozenAt (n * 5 + 1)
    have yf2 := hown3.frozenAt (n * 5 + 2)
    have yf3 := hown3.frozenAt (n * 5 + 3)
    have yf4 := hown3.frozenAt (n * 5 + 4)
    have hg3 : w1.heap.size ≤ g3 := (own_lo hown3 rfl).1
    have yL := (World.cell?_of_block (a := ⟨Lb, 0, none⟩) hS3.1).trans a0
    have yLf := (World.frozen?_of_block (a := ⟨Lb, 0, none⟩) hS3.1).trans af
    have yne : g3 ≠ Lb := by omega
    have yne2 : Lb ≠ g3 := by omega
    have yad : (⟨g3, 0, none⟩ : Addr).add (n * 5) = ⟨g3, n * 5, none⟩ := addr0 g3 (n * 5)
    simp only [Nat.add_zero, List.getElem?_cons_zero, List.getElem?_cons_succ] at y0 y1 y2 y3 y4
    have FA := Lib.hid (fin_a (u := h') (fun k _ => rfl) (Nat.le_refl _) (Below.refl _ _) hgrow3 hown3 HXL.out hRlo hL (Nat.le_of_lt hRL) hlF HO.out hat3 hboxF)
    have FB := Lib.hid (fin_b (u := h') (fun k _ => rfl) (Nat.le_refl _) (Below.refl _ _) hgrow3 hown3 HXL.out hRlo hL (Nat.le_of_lt hRL) hlF HO.out hat3 hboxF)
    refine hK.out _ _ (fun _ => hS3) ?_
    clear hK K
    try simp only [Act.put, List.setIfInBounds_toArray, List.set_cons_zero, List.set_cons_succ]
    refine wpAnyE_takeP (i := 8) (d := 10) (v := .pointer (some ⟨g3, n * 5, none⟩)) rfl (by decide) (by kernel_rfl) (by kernel_rfl) (by kernel_rfl) (fun _ _ _ h => h) (Or.inl ⟨by rfl, ?_⟩) hS3 ?_
    · intro w' hw
      go_simp
    try simp only [Act.put, List.setIfInBounds_toArray, List.set_cons_zero, List.set_cons_succ]
    refine wpAnyE_all (rs := [9, 10]) (by kernel_rfl) (by simp) (AllE.cons rfl (fun K hK => ?_) (AllE.cons rfl (fun K hK => ?_) AllE.nil))
    · go_simp
      refine hK.out _ _ (fun _ => hS3.go (B := w1.heap.size) hL hPb hVb (fun k h1 h2 => put5_other (u := h') k (by omega))) ?_
      clear hK K
      try simp only [Act.put, List.setIfInBounds_toArray, List.set_cons_zero, List.set_cons_succ]
      refine wpAnyE_all (rs := [10]) (by kernel_rfl) (by simp) (AllE.cons rfl (fun K hK => ?_) AllE.nil)
      go_simp
      refine hK.out _ _ (fun h => by cases h) ?_
      refine wpAnyE_done (by kernel_rfl) ?_ _
      go_end0
      exact ⟨rfl, list_end HE.out HA.out hRL hL HW0 HK hor FA.out⟩
    · go_simp
      refine hK.out _ _ (fun h => by cases h) ?_
      clear hK K
      try simp only [Act.put, List.setIfInBounds_toArray, List.set_cons_zero, List.set_cons_succ]
      refine wpAnyE_all (rs := [9]) (by kernel_rfl) (by simp) (AllE.cons rfl (fun K hK => ?_) AllE.nil)
      go_simp
      refine hK.out _ _ (fun h => by cases h) ?_
      refine wpAnyE_done (by kernel_rfl) ?_ _
      go_end0
      exact ⟨rfl, list_end HE.out HA.out hRL hL HW0 HK hor FB.out⟩
end Go.Proofs.YtbinmhcjadkmgaaDoor

/- cascade/json's reader: what lies between two signs (list$1). -/
set_option linter.unusedVariables false
set_option linter.unusedSimpArgs false
namespace Go.Proofs.YtbinmhcjadkmgaaDoor
open Go.RowKit
set_option maxHeartbeats 4000000 in
set_option maxRecDepth 100000 in
theorem members_list {σ : Type} (Inv : World → σ → Prop) (Bad : World → Prop) (len : σ → Nat) (step : Stp σ) (R q0 q1 q2 p : Nat) (s bg en : ByteArray) (b : Int) (x : σ) (w : World)
    (hst : ∀ w w' y a e b, Inv w y → RdP R w s a e b w' → Inv w' y) (hstB : ∀ w w' a e b, Bad w → RdP R w s a e b w' → Bad w') (hIB : ∀ w y, Inv w y → Bad w) (hin : ∀ y i, i ≤ s.size → SIn s i (step y i))
    (hlen : ∀ y i z j, step y i = .inl (z, j) → len z ≤ len y + 1) (hlx : len x = 0)
    (hone : ∀ w y i, Rdr w R s (i : Nat) 0 b → i ≤ s.size → len y ≤ i → Inv w y → Calls Tryd.prog 65 #[.pointer (some ⟨q0, 0, none⟩), .pointer (some ⟨q1, 0, none⟩), .pointer (some ⟨q2, 0, none⟩)] w fun e w' => e = .returned (.tuple #[]) ∧ OneP R s b Inv Bad (step y i) w')
    (h : Rdr w R s p 0 b) (hs : s.size ≤ 1000000) (hp : p ≤ s.size) (hbp : blk s p = p) (hsg : sgn s p bg = true) (hb1 : bg.size = 1) (he1 : en.size = 1) (hI : Inv w x) :
    Calls Tryd.prog 64 #[.pointer (some ⟨R, 0, none⟩), .string bg, .string en, .func (.func 65) #[] #[.pointer (some ⟨q0, 0, none⟩), .pointer (some ⟨q1, 0, none⟩), .pointer (some ⟨q2, 0, none⟩)]] w fun e w' => e = .returned (.tuple #[]) ∧ OneP R s b Inv Bad (memG step s en p x) w' := by
  have HST := Lib.hid hst
  have HSTB := Lib.hid hstB
  have HIB := Lib.hid hIB
  have HIN := Lib.hid hin
  have HONE := Lib.hid hone
  have HLEN := Lib.hid hlen
  have HLX := Lib.hid hlx
  have HI := Lib.hid hI
  have K1 := Lib.hid (must_yes R s bg p 0 b w h hp hs hsg)
  rw [hbp, hb1] at K1
  have hp1 : p + 1 ≤ s.size := by have := sgn_in hsg hp; omega
  clear hst hstB hIB hin hone hI hlen hlx h hsg hbp hb1
  go_enter Tryd.func64, Tryd.ntmps64
  go_wp2_with fail
  refine K1.out.mono ?_
  rintro e1 w1 ⟨rfl, h1⟩
  have H1 := Lib.hid h1
  have HI1 := Lib.hid (HST.out _ _ _ _ _ _ HI.out h1)
  clear h1 K1
  have hbl := blk_le hp1
  by_cases hse : sgn s (p + 1) en = true
  · have K2 := Lib.hid (sign_yes R s en (p + 1) 0 b w1 H1.out.1 hp1 hs hse)
    rw [he1] at K2
    have HG : Hid (memG step s en p x = .inl (x, blk s (p + 1) + 1)) := Lib.hid (by unfold memG; rw [if_pos hse])
    clear hse
    go_wp2_with fail
    refine K2.out.mono ?_
    rintro e2 w2 ⟨rfl, h2⟩
    have H2 := Lib.hid h2
    clear h2
    go_wp2_with fail
    refine bodyPost_ret (results_none rfl _ _ _) rfl ?_
    refine ⟨rfl, ?_⟩
    rw [HG.out]
    exact ⟨H2.out.1, HST.out _ _ _ _ _ _ HI1.out H2.out⟩
  have hse : sgn s (p + 1) en = false := by simpa using hse
  have K2 := Lib.hid (sign_no R s en (p + 1) 0 b w1 H1.out.1 hp1 hs hse)
  have HG : Hid (memG step s en p x = loopG step s en (s.size + 1) (blk s (p + 1)) x) := Lib.hid (by unfold memG; rw [hse]; rfl)
  clear hse
  go_wp2_with fail
  refine K2.out.mono ?_
  rintro e2 w2 ⟨rfl, h2⟩
  have H2 := Lib.hid h2
  have HI2 := Lib.hid (HST.out _ _ _ _ _ _ HI1.out h2)
  clear h2 K2
  go_wp2_with fail
  refine (HONE.out w2 x (blk s (p + 1)) H2.out.1 hbl (by rw [HLX.out]; exact Nat.zero_le _) HI2.out).mono ?_
  rintro e3 w3 ⟨rfl, h3⟩
  have HL := Lib.hid (loop_start (len := len) HIN.out HG.out hbl HLEN.out (by rw [HLX.out]; exact Nat.zero_le _) h3)
  clear h3
  go_wp2_with fail
  go_loopw [] (fun wr => LoopS len step s en R b Inv Bad (memG step s en p x) wr) (fun wr => mesJ R s wr)
  case atStart => exact HL.out
  case round =>
    rcases hrel with ⟨f, j, y, hr, hI3, hj, hf, hlj, hG⟩ | ⟨er, bd, a', he, hB, ha, hr, hG⟩
    · have HR := Lib.hid hr
      have HI3 := Lib.hid hI3
      have HG3 := Lib.hid hG
      have c2 := hr.c2
      have hm : mesJ R s wr = s.size + 2 - j := mes_ok hr
      have HM := Lib.hid hm
      clear hr hI3 hG hm
      by_cases hsc : sgn s j sComma = true
      · have K3 := Lib.hid (sign_yes R s sComma j 0 b wr HR.out hj hs hsc)
        have hj1 : blk s j + 1 ≤ s.size := sgn_in hsc hj
        have hge := blk_ge s j
        have HN := Lib.hid (loop_yes hsc HG3.out)
        clear hsc
        go_wp2_with fail
        refine K3.out.mono ?_
        rintro e4 w4 ⟨rfl, h4⟩
        have H4 := Lib.hid h4
        have HI4 := Lib.hid (HST.out _ _ _ _ _ _ HI3.out h4)
        clear h4 K3 c2
        go_wp2_with fail
        refine (HONE.out w4 y (blk s j + 1) H4.out.1 hj1 (by omega) HI4.out).mono ?_
        rintro e5 w5 ⟨rfl, h5⟩
        have HL5 := Lib.hid (loop_next (len := len) HIN.out HN.out hf hge hj1 HLEN.out hlj h5)
        clear h5
        go_wp2_with fail
        refine ⟨HL5.out.1, ?_⟩
        rw [HM.out]
        exact HL5.out.2
      · have hsc : sgn s j sComma = false := by simpa using hsc
        have K3 := Lib.hid (sign_no R s sComma j 0 b wr HR.out hj hs hsc)
        have hbj := blk_le hj
        have HN := Lib.hid (loop_no hsc HG3.out)
        clear hsc
        go_wp2_with fail
        refine K3.out.mono ?_
        rintro e4 w4 ⟨rfl, h4⟩
        have H4 := Lib.hid h4
        have HI4 := Lib.hid (HST.out _ _ _ _ _ _ HI3.out h4)
        clear h4 K3 c2
        by_cases hen : sgn s j en = true
        · have K5 := Lib.hid (must_yes R s en (blk s j) 0 b w4 H4.out.1 hbj hs (by rw [sgn_idem]; exact hen))
          rw [blk_idem, he1] at K5
          have HN2 := Lib.hid (HN.out.symm.trans (if_pos hen))
          clear hen
          go_wp2_with fail
          refine K5.out.mono ?_
          rintro e5 w5 ⟨rfl, h5⟩
          have H5 := Lib.hid h5
          clear h5
          go_wp2_with fail
          go_end0
          refine ⟨rfl, ?_⟩
          rw [HN2.out]
          exact ⟨H5.out.1, HST.out _ _ _ _ _ _ HI4.out H5.out⟩
        · have hen : sgn s j en = false := by simpa using hen
          have K5 := Lib.hid (must_no R s en (blk s j) b w4 H4.out.1 hbj hs (by rw [sgn_idem]; exact hen))
          rw [blk_idem] at K5
          have HN2 := Lib.hid (HN.out.symm.trans (by rw [hen] <;> rfl))
          clear hen
          go_wp2_with fail
          refine K5.out.mono ?_
          rintro e5 w5 ⟨rfl, h5⟩
          have H5 := Lib.hid h5
          clear h5
          go_wp2_with fail
          go_end0
          refine ⟨rfl, ?_⟩
          rw [HN2.out]
          exact ⟨by decide, HSTB.out _ _ _ _ _ (HIB.out _ _ HI4.out) H5.out, blk s j, hbj, H5.out.1⟩
    · have HR := Lib.hid hr
      have HB := Lib.hid hB
      have HG3 := Lib.hid hG
      have HE := Lib.hid he
      have c2 := hr.c2
      have hez : (er == 0) = false := by simpa using he
      have K3 := Lib.hid (must_bad R s en a' er bd wr hr he ha hs)
      clear hr hB hG he
      go_wp2_with fail
      refine K3.out.mono ?_
      rintro e4 w4 ⟨rfl, a4, ha4, h4⟩
      have H4 := Lib.hid h4
      clear h4 K3 c2
      go_wp2_with fail
      go_end0
      refine ⟨rfl, ?_⟩
      rw [HG3.out]
      exact ⟨HE.out, HSTB.out _ _ _ _ _ HB.out H4.out, a4, ha4, H4.out.1⟩
end Go.Proofs.YtbinmhcjadkmgaaDoor

/- cascade/json's reader: lists. -/
set_option linter.unusedVariables false
set_option linter.unusedSimpArgs false
namespace Go.Proofs.YtbinmhcjadkmgaaDoor
open Go.RowKit
theorem own_maxJ {w : World} {base : Nat} {e : TypeId} {size : Nat} {A : Option Addr} {n c : Nat} {xs : List Value} (h : w.ownsRow base e size (.slice A n c) n xs) : n ≤ maxLen := by
  rcases h.2 with ⟨e, h0⟩ | ⟨g, cap, cur, hv, _, _, hle, hm, _⟩
  · omega
  · omega
/-- What a list's or an object's contract says: the rows as they are left, in new memory. -/
def RowR (R : Nat) (s : ByteArray) (b : Int) (g : Got) (mk : Option Addr → Nat → Nat → Hd) (w : World) (e : Ending) (w' : World) : Prop :=
  ∃ (A : Option Addr) (n c : Nat), e = .returned (.slice A n c) ∧
    ((∃ (a : Va) (j : Nat), g = .ok a j ∧ RdP R w s (j : Nat) 0 b w' ∧ ∀ wf, (∀ k, k < w'.heap.size → w.heap.size ≤ k → wf.heap[k]? = w'.heap[k]?) → Lies wf (fun x => w.heap.size ≤ x) a (mk A n c)) ∨
     (∃ (er : Int) (bd : Nat), g = .no er bd ∧ er ≠ 0 ∧ ∃ a' : Nat, a' ≤ s.size ∧ RdP R w s (a' : Nat) er (bd : Nat) w'))
abbrev mkL (A : Option Addr) (n c : Nat) : Hd := ⟨4, 0, ByteArray.empty, A, n, c, none, 0, 0⟩
abbrev mkO (A : Option Addr) (n c : Nat) : Hd := ⟨5, 0, ByteArray.empty, none, 0, 0, A, n, c⟩
set_option maxHeartbeats 2000000 in
set_option maxRecDepth 100000 in
theorem list_any (R p : Nat) (s : ByteArray) (lv b : Int) (vl : Nat → Got) (w : World) (hlv : IntKind.i64.wrap (lv + 1) = lv + 1) (h : Rdr w R s (p : Nat) 0 b) (hE : EV R w) (hs : s.size ≤ 1000000) (hp : p ≤ s.size) (hbp : blk s p = p) (hsg : sgn s p sOpL = true) (hin : ∀ i, i ≤ s.size → GIn s i (vl i))
    (hV : ∀ w2 p, p ≤ s.size → Rdr w2 R s (p : Nat) 0 b → EV R w2 → Calls Tryd.prog 33 #[.pointer (some ⟨R, 0, none⟩), .int .i64 (lv + 1)] w2 fun e w' => VlR R s b (vl p) w2 e w') :
    Calls Tryd.prog 47 #[.pointer (some ⟨R, 0, none⟩), .int .i64 lv] w fun e w' => RowR R s b (listG vl s p) mkL w e w' := by
  have hRl := h.lt
  rw [list_mem]
  have HV := Lib.hid hV
  have HH := Lib.hid h
  have HE := Lib.hid hE
  have HSG := Lib.hid hsg
  have HIN := Lib.hid hin
  clear h hE hV hsg hin
  go_enter Tryd.func47, Tryd.ntmps47
  go_upto_region 2 with fail
  obtain ⟨w1, hw1⟩ : ∃ w1, w1 = (((w.alloc (Obj.cells #[Value.pointer (some { block := R, off := 0 })] 69)).alloc (Obj.cells #[Value.int IntKind.i64 lv] 3)).alloc (Obj.cells #[Value.slice none 0 0] 22)) := ⟨_, rfl⟩
  have hz : w1.heap.size = w.heap.size + 3 := by rw [hw1]; simp
  have hb1 : Below w.heap.size w w1 := by rw [hw1]; exact (((Below.refl _ _).alloc (Nat.le_refl _) _).alloc (by simp) _).alloc (by simp; omega) _
  have hbP : w1.heap[w.heap.size]? = some (Obj.cells #[Value.pointer (some { block := R, off := 0 })] 69) := by
    rw [hw1, Lib.alloc_old _ _ _ (by simp; omega), Lib.alloc_old _ _ _ (by simp)]; exact heap_alloc_new w _
  have hbV : w1.heap[w.heap.size + 1]? = some (Obj.cells #[Value.int IntKind.i64 lv] 3) := by
    rw [hw1, Lib.alloc_old _ _ _ (by simp)]
    have := heap_alloc_new (w.alloc (Obj.cells #[Value.pointer (some { block := R, off := 0 })] 69)) (Obj.cells #[Value.int IntKind.i64 lv] 3)
    simpa using this
  have hbL : w1.heap[w.heap.size + 1 + 1]? = some (Obj.cells #[Value.slice none 0 0] 22) := by
    rw [hw1]
    have := heap_alloc_new ((w.alloc (Obj.cells #[Value.pointer (some { block := R, off := 0 })] 69)).alloc (Obj.cells #[Value.int IntKind.i64 lv] 3)) (Obj.cells #[Value.slice none 0 0] 22)
    simpa using this
  rw [← hw1]
  clear hw1
  obtain ⟨Lb, hLb⟩ : ∃ Lb, Lb = w.heap.size + 1 + 1 := ⟨_, rfl⟩
  rw [← hLb] at hbL ⊢
  have a1 : w1.cell? ⟨w.heap.size, 0, none⟩ = some (.pointer (some ⟨R, 0, none⟩)) := Lib.cell_of_heap hbP 0
  have a2 : w1.cell? ⟨w.heap.size + 1, 0, none⟩ = some (.int .i64 lv) := Lib.cell_of_heap hbV 0
  have H1 : Rdr w1 R s (p : Nat) 0 b := HH.out.below hb1
  have HI : InvLs w1 R Lb w1 [] := ⟨HE.out.go (hb1.mono (by omega)), [], none, 0, 0, Below.refl _ _, Nat.le_refl _, fun _ _ _ => rfl, hbL, World.ownsRow_nil _ _ _ _, rfl, rfl, fun j y u hy _ => by simp at hy⟩
  have hX : ∀ k, k < w1.heap.size → ¬ XL R Lb k → k ≠ R := fun k _ h e => h (.inl e)
  have KM := Lib.hid (members_list (InvLs w1 R Lb) (BadLs w1 R Lb) List.length (stepL vl) R Lb w.heap.size (w.heap.size + 1) p s sOpL sClL b [] w1
    (fun w2 w3 y a e b ⟨h1, us, A, n, c, h2⟩ h3 => ⟨h1.rd h3, us, A, n, c, h2.rd (fun k q1 _ q2 => hX k q1 q2) (by omega) (by omega) (by omega) h3.2⟩)
    (fun w2 w3 a e b ⟨h1, h2⟩ h3 => ⟨h1.rd h3, h2.rd hX (by omega) (by omega) h3.2⟩)
    (fun w2 y ⟨h1, us, A, n, c, h2⟩ => ⟨h1, h2.bad⟩)
    (fun y i hi => stepL_in HIN.out y i hi)
    (fun y i z j h => by
      unfold stepL at h
      cases hv : vl i with
      | no e b => rw [hv] at h; cases h
      | ok x k => rw [hv] at h; cases h; simp) rfl
    (fun w2 y i h1 hi hl h2 => one_list R Lb w.heap.size (w.heap.size + 1) i s lv b vl y w1 w2 hlv (by omega) (by omega) (by omega) (by omega) (by omega) (by omega) (by omega) (by omega) (by omega) a1 a2 h1 h2 (fun w3 h3 h4 => HV.out w3 i hi h3 h4))
    H1 hs hp hbp HSG.out rfl rfl HI)
  have hfin : Hid (∀ w5, OneP R s b (InvLs w1 R Lb) (BadLs w1 R Lb) (memG (stepL vl) s sClL p []) w5 → ∃ (A : Option Addr) (n c : Nat), w5.heap[Lb]? = some (Obj.cells #[Value.slice A n c] 22) ∧ RowR R s b (gotL (memG (stepL vl) s sClL p [])) mkL w (.returned (.slice A n c)) w5) := Lib.hid fun w5 h5 => by
    have kp : ∀ w5, Below R w1 w5 → w1.heap.size ≤ w5.heap.size → (∀ k, k < w1.heap.size → ¬ XL R Lb k → w5.heap[k]? = w1.heap[k]?) → Kp R w w5 := fun w5 q1 q2 q3 =>
      ⟨(hb1.mono (by omega)).trans q1, by omega, fun k h1 h2 => by rw [q3 k (by omega) (fun e => by rcases e with e | e <;> omega)]; exact hb1.block k h2⟩
    cases hG : memG (stepL vl) s sClL p [] with
    | inl q =>
      obtain ⟨acc, j⟩ := q
      rw [hG] at h5
      obtain ⟨hr, _, us, A, n, c, hA⟩ := h5
      refine ⟨A, n, c, hA.box, A, n, c, rfl, .inl ⟨_, j, rfl, ⟨hr, kp w5 hA.bel hA.sz hA.blk⟩, fun wf hk => ?_⟩⟩
      exact hA.list (by have := own_maxJ hA.own; have := hA.lenA; omega) (by omega) (fun k h1 h2 => hk k h1 (by omega))
    | inr q =>
      obtain ⟨er, bd⟩ := q
      rw [hG] at h5
      obtain ⟨h0, ⟨_, hB⟩, a', ha, hr⟩ := h5
      obtain ⟨A, n, c, hbx⟩ := hB.box
      exact ⟨A, n, c, hbx, A, n, c, rfl, .inr ⟨er, bd, rfl, h0, a', ha, hr, kp w5 hB.bel hB.sz hB.blk⟩⟩
  clear hbP hbV hbL H1 HI hX HV HH HE HSG HIN hz hLb
  go_wp2_with fail
  refine KM.out.mono ?_
  rintro e5 w5 ⟨rfl, h5⟩
  obtain ⟨A, n, c, hbx, hrow⟩ := hfin.out w5 h5
  have HROW := Lib.hid hrow
  have q0 : w5.cell? ⟨Lb, 0, none⟩ = some (.slice A n c) := Lib.cell_of_heap hbx 0
  clear hrow h5 hfin KM a1 a2 hbx
  go_wp2_with fail
  go_ret
  exact HROW.out
end Go.Proofs.YtbinmhcjadkmgaaDoor

/- cascade/json's reader: objects. -/
set_option linter.unusedVariables false
set_option linter.unusedSimpArgs false
namespace Go.Proofs.YtbinmhcjadkmgaaDoor
open Go.RowKit Go.Maps
theorem run_makeMap_none (w : World) : (Instr.makeMap 77 none).run Tryd.prog w = .ok (.map (some w.heap.size)) (w.alloc (.map #[] 0)) := by
  simp [Instr.makeMap, run_underlying Tryd.underlying77, asInt, asIntOf, Result.andThen]
set_option maxHeartbeats 2000000 in
set_option maxRecDepth 100000 in
theorem object_any (R p : Nat) (s : ByteArray) (lv b : Int) (vl : Nat → Got) (w : World) (hlv : IntKind.i64.wrap (lv + 1) = lv + 1) (h : Rdr w R s (p : Nat) 0 b) (hE : EV R w) (hs : s.size ≤ 1000000) (hp : p ≤ s.size) (hbp : blk s p = p) (hsg : sgn s p sOpO = true) (hin : ∀ i, i ≤ s.size → GIn s i (vl i))
    (hV : ∀ w2 p, p ≤ s.size → Rdr w2 R s (p : Nat) 0 b → EV R w2 → Calls Tryd.prog 33 #[.pointer (some ⟨R, 0, none⟩), .int .i64 (lv + 1)] w2 fun e w' => VlR R s b (vl p) w2 e w') :
    Calls Tryd.prog 48 #[.pointer (some ⟨R, 0, none⟩), .int .i64 lv] w fun e w' => RowR R s b (objG vl s p) mkO w e w' := by
  have hRl := h.lt
  rw [obj_mem]
  have HV := Lib.hid hV
  have HH := Lib.hid h
  have HE := Lib.hid hE
  have HSG := Lib.hid hsg
  have HIN := Lib.hid hin
  clear h hE hV hsg hin
  have hmm := run_makeMap_none
  go_enter Tryd.func48, Tryd.ntmps48
  go_upto_region 3 with fail
  obtain ⟨wa, hwa⟩ : ∃ wa, wa = w.alloc (Obj.cells #[Value.pointer (some { block := R, off := 0 })] 69) := ⟨_, rfl⟩
  obtain ⟨wb, hwb⟩ : ∃ wb, wb = wa.alloc (Obj.cells #[Value.int IntKind.i64 lv] 3) := ⟨_, rfl⟩
  obtain ⟨wc, hwc⟩ : ∃ wc, wc = wb.alloc (Obj.cells #[Value.slice none 0 0] 23) := ⟨_, rfl⟩
  obtain ⟨wd, hwd⟩ : ∃ wd, wd = wc.alloc (Obj.map #[] 0) := ⟨_, rfl⟩
  obtain ⟨w1, hw1⟩ : ∃ w1, w1 = wd.alloc (Obj.cells #[Value.map (some (w.heap.size + 1 + 1 + 1))] 77) := ⟨_, rfl⟩
  rw [← hwa, ← hwb, ← hwc, ← hwd, ← hw1]
  have za : wa.heap.size = w.heap.size + 1 := by rw [hwa]; simp
  have zb : wb.heap.size = w.heap.size + 2 := by rw [hwb]; simp [za]
  have zc' : wc.heap.size = w.heap.size + 3 := by rw [hwc]; simp [zb]
  have zd : wd.heap.size = w.heap.size + 4 := by rw [hwd]; simp [zc']
  have hz : w1.heap.size = w.heap.size + 5 := by rw [hw1]; simp [zd]
  have ka : ∀ k, k < w.heap.size → wa.heap[k]? = w.heap[k]? := fun k hk => by rw [hwa]; exact Lib.alloc_old _ _ _ hk
  have kb : ∀ k, k < wa.heap.size → wb.heap[k]? = wa.heap[k]? := fun k hk => by rw [hwb]; exact Lib.alloc_old _ _ _ hk
  have kc : ∀ k, k < wb.heap.size → wc.heap[k]? = wb.heap[k]? := fun k hk => by rw [hwc]; exact Lib.alloc_old _ _ _ hk
  have kd : ∀ k, k < wc.heap.size → wd.heap[k]? = wc.heap[k]? := fun k hk => by rw [hwd]; exact Lib.alloc_old _ _ _ hk
  have k1 : ∀ k, k < wd.heap.size → w1.heap[k]? = wd.heap[k]? := fun k hk => by rw [hw1]; exact Lib.alloc_old _ _ _ hk
  have hb1 : Below w.heap.size w w1 := by
    rw [hw1, hwd, hwc, hwb, hwa]
    exact (((((Below.refl _ _).alloc (Nat.le_refl _) _).alloc (by simp) _).alloc (by simp; omega) _).alloc (by simp; omega) _).alloc (by simp; omega) _
  have na : wa.heap[w.heap.size]? = some (Obj.cells #[Value.pointer (some { block := R, off := 0 })] 69) := by rw [hwa]; exact heap_alloc_new w _
  have nb : wb.heap[w.heap.size + 1]? = some (Obj.cells #[Value.int IntKind.i64 lv] 3) := by have := heap_alloc_new wa (Obj.cells #[Value.int IntKind.i64 lv] 3); rw [za, ← hwb] at this; exact this
  have nc : wc.heap[w.heap.size + 1 + 1]? = some (Obj.cells #[Value.slice none 0 0] 23) := by have := heap_alloc_new wb (Obj.cells #[Value.slice none 0 0] 23); rw [zb, ← hwc] at this; exact this
  have n1 : w1.heap[w.heap.size + 1 + 1 + 1 + 1]? = some (Obj.cells #[Value.map (some (w.heap.size + 1 + 1 + 1))] 77) := by have := heap_alloc_new wd (Obj.cells #[Value.map (some (w.heap.size + 1 + 1 + 1))] 77); rw [zd, ← hw1] at this; exact this
  have hbP : w1.heap[w.heap.size]? = some (Obj.cells #[Value.pointer (some { block := R, off := 0 })] 69) := by rw [k1 _ (by omega), kd _ (by omega), kc _ (by omega), kb _ (by omega)]; exact na
  have hbV : w1.heap[w.heap.size + 1]? = some (Obj.cells #[Value.int IntKind.i64 lv] 3) := by rw [k1 _ (by omega), kd _ (by omega), kc _ (by omega)]; exact nb
  have hbL : w1.heap[w.heap.size + 1 + 1]? = some (Obj.cells #[Value.slice none 0 0] 23) := by rw [k1 _ (by omega), kd _ (by omega)]; exact nc
  have hMd : MapKs wd (w.heap.size + 1 + 1 + 1) 0 [] := by
    refine ⟨.map [], ⟨[], rfl⟩, fun x => by simp [Maps.has], ?_, by omega⟩
    have := World.ownsMap_made (H := Unit) (P := Tryd.prog) (k := 9) (R := plainElem Tryd.prog 3) wc
    rw [← hwd, zc'] at this
    exact this
  have hM1 : MapKs w1 (w.heap.size + 1 + 1 + 1) 0 [] := hMd.blk (k1 _ (by omega)) (by omega)
  clear hwa hwb hwc hwd hw1 na nb nc ka kb kc kd k1 hMd
  obtain ⟨Lb, hLb⟩ : ∃ Lb, Lb = w.heap.size + 1 + 1 := ⟨_, rfl⟩
  obtain ⟨Mb, hMb⟩ : ∃ Mb, Mb = w.heap.size + 1 + 1 + 1 := ⟨_, rfl⟩
  obtain ⟨Bb, hBb⟩ : ∃ Bb, Bb = w.heap.size + 1 + 1 + 1 + 1 := ⟨_, rfl⟩
  rw [← hLb] at hbL
  rw [← hBb, ← hMb] at n1
  rw [← hMb] at hM1
  rw [← hBb, ← hMb, ← hLb]
  have a1 : w1.cell? ⟨w.heap.size, 0, none⟩ = some (.pointer (some ⟨R, 0, none⟩)) := Lib.cell_of_heap hbP 0
  have a2 : w1.cell? ⟨w.heap.size + 1, 0, none⟩ = some (.int .i64 lv) := Lib.cell_of_heap hbV 0
  have a3 : w1.cell? ⟨Bb, 0, none⟩ = some (.map (some Mb)) := Lib.cell_of_heap n1 0
  have H1 : Rdr w1 R s (p : Nat) 0 b := HH.out.below hb1
  have HI : InvOb w1 R Lb Mb w1 ([], []) := ⟨HE.out.go (hb1.mono (by omega)), hM1, fun k hk => by simp at hk, [], none, 0, 0, rfl, Below.refl _ _, Nat.le_refl _, fun _ _ _ => rfl, hbL, World.ownsRow_nil _ _ _ _, rfl, rfl, fun j y u hy _ => by simp at hy⟩
  have hX : ∀ k, k < w1.heap.size → ¬ XO R Lb Mb k → k ≠ R := fun k _ h e => h (.inl e)
  have KM := Lib.hid (members_obj (InvOb w1 R Lb Mb) (BadOb w1 R Lb Mb) (fun x => x.1.length) (stepO vl s) R w.heap.size Bb Lb (w.heap.size + 1) p s sOpO sClO b ([], []) w1
    (fun w2 w3 y a e b ⟨h1, hm, hk, us, A, n, c, hu, h2⟩ h3 => ⟨h1.rd h3, hm.blk (h3.2.block Mb (by omega) (by have := h2.sz; omega)) h3.2.size, hk, us, A, n, c, hu, h2.rd (fun k q1 _ q2 => hX k q1 q2) (by omega) (by omega) (by omega) h3.2⟩)
    (fun w2 w3 a e b ⟨h1, h2⟩ h3 => ⟨h1.rd h3, h2.rd hX (by omega) (by omega) h3.2⟩)
    (fun w2 y ⟨h1, hm, hk, us, A, n, c, hu, h2⟩ => ⟨h1, h2.bad⟩)
    (fun y i hi => stepO_in HIN.out y i hi)
    (fun y i z j h => by
      unfold stepO at h
      split at h
      · cases h
      split at h
      · cases h
      split at h
      · cases hv : vl (blk s (blk s i + (uq s (blk s i)).2.1) + 1) with
        | no e b => rw [hv] at h; cases h
        | ok x k => rw [hv] at h; cases h; simp
      · cases h) rfl
    (fun w2 y i h1 hi hl h2 => one_obj R Lb w.heap.size (w.heap.size + 1) Bb Mb i s lv b vl y.1 y.2 w1 w2 hlv hs hi hl (by omega) (by omega) (by omega) (by omega) (by omega) (by omega) (by omega) (by omega) (by omega) (by omega) (by omega) (by omega) (by omega) (by omega) (by omega) (by omega) (by omega) a1 a2 a3 h1 h2 (fun w3 q hq h3 h4 => HV.out w3 q hq h3 h4))
    H1 hs hp hbp HSG.out rfl rfl HI)
  have hfin : Hid (∀ w5, OneP R s b (InvOb w1 R Lb Mb) (BadOb w1 R Lb Mb) (memG (stepO vl s) s sClO p ([], [])) w5 → ∃ (A : Option Addr) (n c : Nat), w5.heap[Lb]? = some (Obj.cells #[Value.slice A n c] 23) ∧ RowR R s b (gotO (memG (stepO vl s) s sClO p ([], []))) mkO w (.returned (.slice A n c)) w5) := Lib.hid fun w5 h5 => by
    have kp : ∀ w5, Below R w1 w5 → w1.heap.size ≤ w5.heap.size → (∀ k, k < w1.heap.size → ¬ XO R Lb Mb k → w5.heap[k]? = w1.heap[k]?) → Kp R w w5 := fun w5 q1 q2 q3 =>
      ⟨(hb1.mono (by omega)).trans q1, by omega, fun k h1 h2 => by rw [q3 k (by omega) (fun e => by rcases e with e | e | e <;> omega)]; exact hb1.block k h2⟩
    cases hG : memG (stepO vl s) s sClO p ([], []) with
    | inl q =>
      obtain ⟨⟨ks, acc⟩, j⟩ := q
      rw [hG] at h5
      obtain ⟨hr, _, _, hk, us, A, n, c, hu, hA⟩ := h5
      refine ⟨A, n, c, hA.box, A, n, c, rfl, .inl ⟨_, j, rfl, ⟨hr, kp w5 hA.bel hA.sz hA.blk⟩, fun wf hkf => ?_⟩⟩
      exact hA.obj hu (fun x hx => by have := hk x hx; unfold maxLen; omega) (by have := own_maxJ hA.own; have := hA.lenA; omega) (by omega) (fun k h1 h2 => hkf k h1 (by omega))
    | inr q =>
      obtain ⟨er, bd⟩ := q
      rw [hG] at h5
      obtain ⟨h0, ⟨_, hB⟩, a', ha, hr⟩ := h5
      obtain ⟨A, n, c, hbx⟩ := hB.box
      exact ⟨A, n, c, hbx, A, n, c, rfl, .inr ⟨er, bd, rfl, h0, a', ha, hr, kp w5 hB.bel hB.sz hB.blk⟩⟩
  clear hbP hbV hbL H1 HI hX HV HH HE HSG HIN hz hLb hMb hBb n1 hM1 za zb zc' zd
  go_wp2_with fail
  refine KM.out.mono ?_
  rintro e5 w5 ⟨rfl, h5⟩
  obtain ⟨A, n, c, hbx, hrow⟩ := hfin.out w5 h5
  have HROW := Lib.hid hrow
  have q0 : w5.cell? ⟨Lb, 0, none⟩ = some (.slice A n c) := Lib.cell_of_heap hbx 0
  clear hrow h5 hfin KM a1 a2 a3 hbx
  go_wp2_with fail
  go_ret
  exact HROW.out
end Go.Proofs.YtbinmhcjadkmgaaDoor

/- What is written is read as it was; plain. -/
set_option linter.unusedVariables false
set_option linter.unusedSimpArgs false
namespace Go.Proofs.YtbinmhcjadkmgaaDoor
open Go.RowKit
theorem pre_drop (s p : ByteArray) (i : Nat) : preAt s i p = p.data.toList.isPrefixOf (s.data.toList.drop i) := by
  unfold preAt Lib.hasPrefix
  rw [Lib.extract_eq]
  congr 1
  show List.take _ _ = _
  rw [List.take_of_length_le]
  rw [List.length_drop, ← Lib.size_eq]
  exact Nat.le_refl _
theorem pre_yes {s p : ByteArray} {i : Nat} {r : List UInt8} (h : s.data.toList.drop i = p.data.toList ++ r) : preAt s i p = true := by
  rw [pre_drop, h, List.isPrefixOf_iff_prefix]
  exact List.prefix_append _ _
theorem pre_no {s p : ByteArray} {i : Nat} {c d : UInt8} {t t' : List UInt8} (h : s.data.toList.drop i = c :: t) (hp : p.data.toList = d :: t') (hne : d ≠ c) : preAt s i p = false := by
  rw [pre_drop, h, hp]
  simp [List.isPrefixOf, hne]
theorem blk_non {s : ByteArray} {i : Nat} {c : UInt8} {t : List UInt8} (h : s.data.toList.drop i = c :: t) (hb : isBl c.toNat = false) : blk s i = i := blk_stop fun x => by
  rw [(drop_some s i c t h).2.1, hb] at x
  cases x.2
theorem sgn_yes {s : ByteArray} {i : Nat} {c : UInt8} {t : List UInt8} (h : s.data.toList.drop i = c :: t) (hb : isBl c.toNat = false) : sgn s i ⟨#[c]⟩ = true := by
  unfold sgn
  rw [blk_non h hb]
  exact pre_yes (r := t) h
theorem sgn_no {s : ByteArray} {i : Nat} {c d : UInt8} {t : List UInt8} (h : s.data.toList.drop i = c :: t) (hb : isBl c.toNat = false) (hne : d ≠ c) : sgn s i ⟨#[d]⟩ = false := by
  unfold sgn
  rw [blk_non h hb]
  exact pre_no h rfl hne
theorem drop_end {s : ByteArray} {i : Nat} (h : s.data.toList.drop i = []) : s.size ≤ i := by
  have := congrArg List.length h
  rw [List.length_drop, ← Lib.size_eq] at this
  simp at this
  omega
theorem drop_add {s : ByteArray} {i : Nat} {l r : List UInt8} (h : s.data.toList.drop i = l ++ r) : s.data.toList.drop (i + l.length) = r := by
  rw [← List.drop_drop, h, List.drop_left]
theorem dgs_run {s : ByteArray} {r : List UInt8} (hr : Dl r) : ∀ (l : List UInt8) (i : Nat), s.data.toList.drop i = l ++ r → (∀ c ∈ l, isDg c = true) → dgs s i = i + l.length
  | [], i, h, _ => by
    refine dgs_stop fun x => ?_
    cases r with
    | nil => have := drop_end h; omega
    | cons c t =>
      have h1 := (drop_some s i c t h).2.1
      rw [h1, hr c rfl] at x
      cases x.2
  | c :: l, i, h, hl => by
    obtain ⟨h1, h2, h3⟩ := drop_some s i c (l ++ r) h
    rw [← dgs_step h1 (by rw [h2]; exact hl c (by simp)), dgs_run hr l (i + 1) h3 (fun d hd => hl d (by simp [hd])), List.length_cons]
    omega
theorem dec_zero {u : Nat} {t : List UInt8} (h : Lib.decDigits u = 48 :: t) : u = 0 ∧ t = [] := by
  have key : ∀ u : Nat, ∀ t, Lib.decDigits u = 48 :: t → u = 0 := by
    intro u
    induction u using Nat.strongRecOn with
    | _ u ih =>
      intro t h
      by_cases hu : u < 10
      · rw [Lib.decDigits_one hu] at h
        have h1 := (List.cons.inj h).1
        have h2 := congrArg UInt8.toNat h1
        rw [u8 _ (by omega)] at h2
        have : (48 : UInt8).toNat = 48 := rfl
        omega
      · rw [Lib.decDigits, dif_neg hu] at h
        obtain ⟨c, t2, e, -⟩ := dec_cons (u / 10)
        rw [e, List.cons_append] at h
        have h1 := (List.cons.inj h).1
        have := ih (u / 10) (by omega) t2 (by rw [e, h1])
        omega
  obtain rfl := key u t h
  refine ⟨rfl, ?_⟩
  have h3 : Lib.decDigits 0 = [48] := by rw [Lib.decDigits_one (by omega)]; rfl
  rw [h3] at h
  exact (List.cons.inj h).2.symm
theorem u48 {c : UInt8} (h : c.toNat = 48) : c = 48 := UInt8.toNat_inj.1 h
theorem num_js {s : ByteArray} {i : Nat} {n : Int} {r : List UInt8} (hr : Dl r) (h : s.data.toList.drop i = Lib.itoa n ++ r) (h1 : n ≤ 9007199254740991) (h2 : -9007199254740991 ≤ n) : numG s i = .ok (leafV 2 n) (i + (Lib.itoa n).length) := by
  by_cases hn : n < 0
  · have e : Lib.itoa n = 45 :: Lib.decDigits n.natAbs := by unfold Lib.itoa; rw [if_pos hn]
    rw [e] at h ⊢
    obtain ⟨d1, d2, d3⟩ := drop_some s i 45 (Lib.decDigits n.natAbs ++ r) h
    have hneg : neg1 s i = true := pre_yes (p := ⟨#[45]⟩) (r := Lib.decDigits n.natAbs ++ r) h
    have hf : fst1 s i = i + 1 := by unfold fst1; rw [if_pos hneg]
    have hd := dgs_run hr (Lib.decDigits n.natAbs) (i + 1) d3 (dec_isDg _)
    obtain ⟨c, t, ec, hc⟩ := dec_cons n.natAbs
    have hl : (Lib.decDigits n.natAbs).length = t.length + 1 := by rw [ec, List.length_cons]
    have h0 : (s.get! (i + 1)).toNat ≠ 48 := fun q => by
      rw [ec, List.cons_append] at d3
      rw [(drop_some s (i + 1) c _ d3).2.1] at q
      rw [u48 q] at ec
      have := (dec_zero ec).1
      omega
    have hv : dvl s (i + 1) (i + 1 + (Lib.decDigits n.natAbs).length) = n.natAbs := by
      unfold dvl
      rw [d3, Nat.add_sub_cancel_left, List.take_left, dv_dec]
    unfold numG
    rw [hf, hd, hv, if_neg (by omega), if_neg (by omega), if_neg (by omega), if_pos hneg]
    have e2 : -((n.natAbs : Nat) : Int) = n := by omega
    rw [e2, List.length_cons]
    congr 1
    omega
  · have e : Lib.itoa n = Lib.decDigits n.toNat := by unfold Lib.itoa; rw [if_neg hn]
    rw [e] at h ⊢
    obtain ⟨c, t, ec, hc⟩ := dec_cons n.toNat
    have h' := h
    rw [ec, List.cons_append] at h'
    obtain ⟨d1, d2, d3⟩ := drop_some s i c (t ++ r) h'
    have hneg : neg1 s i = false := pre_no h' rfl (fun q => by rw [← q] at hc; exact absurd hc (by decide))
    have hf : fst1 s i = i := by unfold fst1; rw [if_neg (by rw [hneg]; decide)]
    have hd := dgs_run hr (Lib.decDigits n.toNat) i h (dec_isDg _)
    have hl : (Lib.decDigits n.toNat).length = t.length + 1 := by rw [ec, List.length_cons]
    have hv : dvl s i (i + (Lib.decDigits n.toNat).length) = n.toNat := by
      unfold dvl
      rw [h, Nat.add_sub_cancel_left, List.take_left, dv_dec]
    have h0 : (s.get! i).toNat = 48 → t = [] := fun q => by
      rw [d2] at q
      rw [u48 q] at ec
      exact (dec_zero ec).2
    unfold numG
    rw [hf, hd, hv, if_neg (fun q => by
      rcases q with q | q
      · omega
      · rw [hneg] at q; exact absurd q.1 (by decide)), if_neg (fun q => by have := h0 q.1; rw [this] at hl; simp at hl; omega), if_neg (by omega), if_neg (by rw [hneg]; decide)]
    have e2 : ((n.toNat : Nat) : Int) = n := by omega
    rw [e2]
theorem txt_js {s t : ByteArray} {i : Nat} {r : List UInt8} (ht : rightB t = true) (h : s.data.toList.drop i = qL t.data.toList ++ r) : uq s i = (t.data.toList, (qL t.data.toList).length, 0) := by
  unfold uq
  refine unq_quote t _ r ht ?_
  rw [Lib.extract_eq]
  show List.take _ _ = _
  rw [List.take_of_length_le (by rw [List.length_drop, ← Lib.size_eq]; exact Nat.le_refl _), h]
/-- What of one value is told. -/
def Bk (s : ByteArray) (a : Va) : Prop := ∀ (d f i : Nat) (r : List UInt8), a.R d → a.W → d ≤ f → s.data.toList.drop i = a.js ++ r → Dl r → valG s f i = .ok a (i + a.js.length)
theorem js_nz {a : Va} {d : Nat} (h : a.R d) : 0 < a.js.length := by
  obtain ⟨c, t, e, -⟩ := js_first' h
  rw [e, List.length_cons]
  omega
theorem elems_js {s : ByteArray} {f d : Nat} (hd : d ≤ f) {r : List UInt8} : ∀ (l : List Va) (x : Va) (acc : List Va) (g i : Nat), (∀ y ∈ x :: l, Bk s y) → RL (x :: l) d → WL (x :: l) → s.size < i + g → s.data.toList.drop i = x.js ++ (jsL l true ++ 93 :: r) →
    elemsG (valG s f) s g i acc = .ok (.mk 4 0 ByteArray.empty (acc ++ x :: l) [] []) (i + x.js.length + (jsL l true).length + 1)
  | l, x, acc, 0, i, hb, hr, hw, hg, h => by
    have h1 := drop_end (s := s) (i := i) (List.drop_eq_nil_of_le (by rw [← Lib.size_eq]; omega))
    have h2 := congrArg List.length h
    rw [List.length_drop, ← Lib.size_eq, List.length_append, List.length_append, List.length_cons] at h2
    omega
  | l, x, acc, g + 1, i, hb, hr, hw, hg, h => by
    simp only [RL] at hr
    simp only [WL] at hw
    have hx := hb x (by simp) d f i _ hr.1 hw.1 hd h (dl_L l r)
    have hj := drop_add h
    have hn := js_nz hr.1
    unfold elemsG
    rw [hx]
    cases l with
    | nil =>
      simp only [jsL, List.nil_append] at hj
      simp only
      rw [sgn_no hj (by decide) (by decide), sgn_yes hj (by decide), blk_non hj (by decide)]
      simp [jsL]
    | cons y m =>
      simp only [jsL, if_true, List.singleton_append, List.cons_append, List.append_assoc, List.nil_append] at hj
      simp only
      rw [sgn_yes hj (by decide), blk_non hj (by decide)]
      simp only [if_true]
      obtain ⟨q1, -, q3⟩ := drop_some s _ _ _ hj
      rw [elems_js hd m y (acc ++ [x]) g (i + x.js.length + 1) (fun z hz => hb z (by simp at hz ⊢; right; exact hz)) hr.2 hw.2 (by omega) q3]
      simp only [jsL, if_true, List.length_append, List.length_cons, List.length_nil, List.append_assoc, List.singleton_append]
      congr 1
      omega
theorem mems_js {s : ByteArray} {f d : Nat} (hd : d ≤ f) {r : List UInt8} : ∀ (l : List Va) (ks : List ByteArray) (x : Va) (key : ByteArray) (kacc : List ByteArray) (acc : List Va) (g i : Nat), (∀ y ∈ x :: l, Bk s y) → RL (x :: l) d → WL (x :: l) → ks.length = l.length → (∀ k ∈ key :: ks, rightB k = true) → (kacc ++ key :: ks).Nodup → s.size < i + g → s.data.toList.drop i = qL key.data.toList ++ (58 :: (x.js ++ (jsF l ks true ++ 125 :: r))) →
    memsG (valG s f) s g i kacc acc = .ok (.mk 5 0 ByteArray.empty [] (kacc ++ key :: ks) (acc ++ x :: l)) (i + (qL key.data.toList).length + 1 + x.js.length + (jsF l ks true).length + 1)
  | l, ks, x, key, kacc, acc, 0, i, hb, hr, hw, hkl, hkr, hnd, hg, h => by
    have h2 := congrArg List.length h
    rw [List.length_drop, ← Lib.size_eq, List.length_append, List.length_cons] at h2
    omega
  | l, ks, x, key, kacc, acc, g + 1, i, hb, hr, hw, hkl, hkr, hnd, hg, h => by
    simp only [RL] at hr
    simp only [WL] at hw
    have hbi : blk s i = i := blk_non (c := 34) (t := qIn key.data.toList ++ [34] ++ (58 :: (x.js ++ (jsF l ks true ++ 125 :: r)))) (by rw [h]; simp [qL]) (by decide)
    have hq := txt_js (hkr key (by simp)) h
    have hc := drop_add h
    obtain ⟨c1, -, c3⟩ := drop_some s _ _ _ hc
    have hx := hb x (by simp) d f (i + (qL key.data.toList).length + 1) _ hr.1 hw.1 hd c3 (dl_F l ks r)
    have hj := drop_add c3
    have hkey : (⟨key.data.toList.toArray⟩ : ByteArray) = key := rfl
    have hni : key ∉ kacc := fun q => by
      rw [List.nodup_append] at hnd
      exact hnd.2.2 key q key (by simp) rfl
    unfold memsG
    rw [hbi, hq]
    simp only
    rw [if_neg (by simp), hkey, if_neg (fun q => hni (hasK_iff.1 q)), sgn_yes hc (by decide), if_pos rfl, blk_non hc (by decide), hx]
    cases l with
    | nil =>
      obtain rfl : ks = [] := List.length_eq_zero_iff.1 hkl
      simp only [jsF, List.nil_append] at hj
      simp only
      rw [sgn_no hj (by decide) (by decide), sgn_yes hj (by decide), blk_non hj (by decide)]
      simp [jsF]
    | cons y m =>
      cases ks with
      | nil => simp at hkl
      | cons k2 ks =>
      simp only [jsF, if_true, List.singleton_append, List.cons_append, List.append_assoc, List.nil_append, List.headD_cons, List.tail_cons] at hj
      simp only
      rw [sgn_yes hj (by decide), blk_non hj (by decide)]
      simp only [if_true]
      obtain ⟨q1, -, q3⟩ := drop_some s _ _ _ hj
      rw [mems_js hd m ks y k2 (kacc ++ [key]) (acc ++ [x]) g (i + (qL key.data.toList).length + 1 + x.js.length + 1) (fun z hz => hb z (by simp at hz ⊢; right; exact hz)) hr.2 hw.2 (by simpa using hkl) (fun z hz => hkr z (by simp at hz ⊢; right; exact hz)) (by simpa using hnd) (by omega) q3]
      simp only [jsF, if_true, List.length_append, List.length_cons, List.length_nil, List.append_assoc, List.singleton_append, List.headD_cons, List.tail_cons]
      congr 1
      omega
theorem val_js (s : ByteArray) : ∀ a : Va, Bk s a := by
  intro a
  induction a using Va.ind with
  | h k n t l ks f ihl ihf =>
    intro d g i r hr hw hdg h hdl
    simp only [Va.R] at hr
    simp only [Va.W] at hw
    obtain ⟨hd1, ht, hk, hrl, hrf⟩ := hr
    obtain ⟨w1, w2, w3⟩ := hw
    cases g with
    | zero => omega
    | succ g =>
    have es : k ≠ 3 → t = ByteArray.empty := fun h3 => empty_of (by have := ht.c2; omega)
    have en : k ≠ 1 → k ≠ 2 → n = 0 := fun h1 h2 => by have := ht.c1; omega
    have el : k ≠ 4 → l = [] := fun h4 => len0 (fun x => ht.c3 ⟨h4, x⟩)
    have ef : k ≠ 5 → f = [] ∧ ks = [] := fun h5 => by
      have a1 : f = [] := len0 (fun x => ht.c4 ⟨h5, x⟩)
      subst a1
      exact ⟨rfl, List.length_eq_zero_iff.1 w1⟩
    have go : ∀ (c : UInt8) (tl : List UInt8), s.data.toList.drop i = c :: tl → isBl c.toNat = false → blk s i = i ∧ ¬ s.size ≤ i ∧ s.get! i = c := fun c tl e hb => ⟨blk_non e hb, by have := (drop_some s i c tl e).1; omega, (drop_some s i c tl e).2.1⟩
    rcases (by have := ht.k0; have := ht.k5; omega : k = 0 ∨ k = 1 ∨ k = 2 ∨ k = 3 ∨ k = 4 ∨ k = 5) with h0 | h0 | h0 | h0 | h0 | h0
    · rw [js_null h0] at h ⊢
      obtain ⟨b1, b2, b3⟩ := go 110 _ h (by decide)
      obtain ⟨q1, q2⟩ := ef (by omega)
      unfold valG
      rw [b1, if_neg b2, b3, if_neg (by decide), if_neg (by decide), if_neg (by decide), if_neg (by decide)]
      unfold wordG
      rw [pre_no h rfl (by decide), pre_no h rfl (by decide), pre_yes (p := wNull) h, h0, en (by omega) (by omega), es (by omega), el (by omega), q1, q2]
      rfl
    · obtain ⟨q1, q2⟩ := ef (by omega)
      have hn := ht.c5
      by_cases h1 : n = 1
      · have e : (Va.mk k n t l ks f).js = wTrue.data.toList := by subst h0; simp only [Va.js, if_true]; rw [if_pos h1]; rfl
        rw [e] at h ⊢
        obtain ⟨b1, b2, b3⟩ := go 116 _ h (by decide)
        unfold valG
        rw [b1, if_neg b2, b3, if_neg (by decide), if_neg (by decide), if_neg (by decide), if_neg (by decide)]
        unfold wordG
        rw [pre_yes (p := wTrue) h, h0, h1, es (by omega), el (by omega), q1, q2]
        rfl
      · have e : (Va.mk k n t l ks f).js = wFalse.data.toList := by subst h0; simp only [Va.js, if_true]; rw [if_neg h1]; rfl
        have hn0 : n = 0 := by omega
        rw [e] at h ⊢
        obtain ⟨b1, b2, b3⟩ := go 102 _ h (by decide)
        unfold valG
        rw [b1, if_neg b2, b3, if_neg (by decide), if_neg (by decide), if_neg (by decide), if_neg (by decide)]
        unfold wordG
        rw [pre_no h rfl (by decide), pre_yes (p := wFalse) h, h0, hn0, es (by omega), el (by omega), q1, q2]
        rfl
    · obtain ⟨q1, q2⟩ := ef (by omega)
      have hj := num_js (n := n) hdl (by rw [js_int h0] at h; exact h) ht.c6 ht.c7
      rw [js_int h0] at h ⊢
      have hc : ∃ c tl, Lib.itoa n = c :: tl ∧ (c = 45 ∨ isDg c = true) := by
        unfold Lib.itoa
        by_cases hn : n < 0
        · rw [if_pos hn]; exact ⟨45, _, rfl, .inl rfl⟩
        · rw [if_neg hn]
          obtain ⟨c, tl, e, hc⟩ := dec_cons n.toNat
          exact ⟨c, tl, e, .inr hc⟩
      obtain ⟨c, tl, e, hc⟩ := hc
      have hnb : isBl c.toNat = false ∧ c.toNat ≠ 34 := by
        rcases hc with rfl | hc
        · exact ⟨by decide, by decide⟩
        · have : 48 ≤ c.toNat ∧ c.toNat ≤ 57 := by simpa [isDg] using hc
          refine ⟨?_, by omega⟩
          unfold isBl
          simp
          omega
      have h' := h
      rw [e, List.cons_append] at h'
      obtain ⟨b1, b2, b3⟩ := go c _ h' hnb.1
      unfold valG
      rw [b1, if_neg b2, b3, if_neg hnb.2, if_pos (by rcases hc with rfl | hc; exact .inl rfl; exact .inr hc), hj, h0, es (by omega), el (by omega), q1, q2]
    · obtain ⟨q1, q2⟩ := ef (by omega)
      rw [js_str h0] at h ⊢
      have hq := txt_js ht.c8 h
      have h' : s.data.toList.drop i = 34 :: (qIn t.data.toList ++ [34] ++ r) := by rw [h]; simp [qL]
      obtain ⟨b1, b2, b3⟩ := go 34 _ h' (by decide)
      unfold valG
      rw [b1, if_neg b2, b3, if_pos (by decide)]
      unfold txtG
      rw [hq]
      simp only [if_true]
      rw [h0, en (by omega) (by omega), el (by omega), q1, q2]
    · obtain ⟨q1, q2⟩ := ef (by omega)
      rw [js_list h0] at h ⊢
      have h' : s.data.toList.drop i = 91 :: (jsL l false ++ 93 :: r) := by rw [h]; simp
      obtain ⟨b1, b2, b3⟩ := go 91 _ h' (by decide)
      obtain ⟨c1, -, c3⟩ := drop_some s i _ _ h'
      unfold valG
      rw [b1, if_neg b2, b3, if_neg (by decide), if_neg (by decide), if_pos (by decide)]
      unfold listG
      cases l with
      | nil =>
        simp only [jsL, List.nil_append] at c3
        rw [sgn_yes c3 (by decide), blk_non c3 (by decide), h0, en (by omega) (by omega), es (by omega), q1, q2]
        simp [jsL]
      | cons x m =>
        simp only [jsL, if_neg Bool.false_ne_true, List.nil_append, List.append_assoc] at c3
        have hrx := hrl
        simp only [RL] at hrx
        obtain ⟨c, tl, e, hkb⟩ := js_first' hrx.1
        have c4 := c3
        rw [e, List.cons_append] at c4
        have hnb : isBl c.toNat = false ∧ (93 : UInt8) ≠ c := by
          refine ⟨?_, fun q => by rw [← q] at hkb; exact absurd hkb (by decide)⟩
          cases hb : isBl c.toNat
          · rfl
          · exfalso
            unfold isBl at hb
            simp only [Bool.or_eq_true, beq_iff_eq] at hb
            have : c = 32 ∨ c = 9 ∨ c = 10 ∨ c = 13 := by
              rcases hb with ((hb | hb) | hb) | hb
              · exact .inl (UInt8.toNat_inj.1 hb)
              · exact .inr (.inl (UInt8.toNat_inj.1 hb))
              · exact .inr (.inr (.inl (UInt8.toNat_inj.1 hb)))
              · exact .inr (.inr (.inr (UInt8.toNat_inj.1 hb)))
            rcases this with rfl | rfl | rfl | rfl <;> exact absurd hkb (by decide)
        rw [sgn_no c4 hnb.1 hnb.2, blk_non c4 hnb.1, if_neg (by decide), elems_js (d := d - 1) (by omega) m x [] (s.size + 1) (i + 1) (fun y hy => ihl y hy) hrl w2 (by omega) c3, h0, en (by omega) (by omega), es (by omega), q1, q2]
        simp only [List.nil_append, jsL, if_neg Bool.false_ne_true, List.length_cons, List.length_append, List.length_nil]
        congr 1
        omega
    · rw [js_obj h0] at h ⊢
      have h' : s.data.toList.drop i = 123 :: (jsF f ks false ++ 125 :: r) := by rw [h]; simp
      obtain ⟨b1, b2, b3⟩ := go 123 _ h' (by decide)
      obtain ⟨c1, -, c3⟩ := drop_some s i _ _ h'
      unfold valG
      rw [b1, if_neg b2, b3, if_neg (by decide), if_neg (by decide), if_neg (by decide), if_pos (by decide)]
      unfold objG
      cases f with
      | nil =>
        obtain rfl : ks = [] := List.length_eq_zero_iff.1 w1
        simp only [jsF, List.nil_append] at c3
        rw [sgn_yes c3 (by decide), blk_non c3 (by decide), h0, en (by omega) (by omega), es (by omega), el (by omega)]
        simp [jsF]
      | cons x m =>
        cases ks with
        | nil => simp at w1
        | cons key ks =>
        simp only [jsF, if_neg Bool.false_ne_true, List.nil_append, List.append_assoc, List.cons_append, List.headD_cons, List.tail_cons] at c3
        have c4 : s.data.toList.drop (i + 1) = 34 :: (qIn key.data.toList ++ [34] ++ (58 :: (x.js ++ (jsF m ks true ++ 125 :: r)))) := by rw [c3]; simp [qL]
        rw [sgn_no c4 (by decide) (by decide), blk_non c4 (by decide), if_neg (by decide), mems_js (d := d - 1) (by omega) m ks x key [] [] (s.size + 1) (i + 1) (fun y hy => ihf y hy) hrf w3 (by simpa using w1) hk.1 (by simpa using hk.2) (by omega) c3, h0, en (by omega) (by omega), es (by omega), el (by omega)]
        simp only [List.nil_append, jsF, if_neg Bool.false_ne_true, List.length_cons, List.length_append, List.length_nil, List.headD_cons, List.tail_cons]
        congr 1
        omega
end Go.Proofs.YtbinmhcjadkmgaaDoor

/- What strconv.ParseInt makes of digits; plain. -/
set_option linter.unusedVariables false
set_option linter.unusedSimpArgs false
namespace Go.Proofs.YtbinmhcjadkmgaaDoor
open Go.RowKit
theorem dv_mono (l : List UInt8) : ∀ acc : Nat, acc ≤ l.foldl (fun a c => a * 10 + (c.toNat - 48)) acc := by
  induction l with
  | nil => intro acc; exact Nat.le_refl _
  | cons c l ih =>
    intro acc
    have := ih (acc * 10 + (c.toNat - 48))
    simp only [List.foldl_cons]
    omega
theorem uintM_dg (l : List UInt8) : ∀ acc V : Nat, V = l.foldl (fun a c => a * 10 + (c.toNat - 48)) acc → (∀ c ∈ l, isDg c = true) → acc ≤ 18446744073709551615 → Lib.parseUintM 18446744073709551615 acc l = if V ≤ 18446744073709551615 then .ok V else .range := by
  induction l with
  | nil =>
    intro acc V hV _ ha
    obtain rfl : V = acc := hV
    rw [if_pos ha]
    rfl
  | cons c l ih =>
    intro acc V hV hl ha
    have hc : 48 ≤ c.toNat ∧ c.toNat ≤ 57 := by have := hl c (by simp); simpa [isDg] using this
    have hV2 : V = l.foldl (fun a c => a * 10 + (c.toNat - 48)) (acc * 10 + (c.toNat - 48)) := hV
    have hm := dv_mono l (acc * 10 + (c.toNat - 48))
    rw [← hV2] at hm
    simp only [Lib.parseUintM]
    rw [if_pos hc]
    by_cases h1 : 1844674407370955162 ≤ acc
    · rw [if_pos h1, if_neg (by omega)]
    · rw [if_neg h1]
      by_cases h2 : 18446744073709551615 < acc * 10 + (c.toNat - 48)
      · rw [if_pos h2, if_neg (by omega)]
      · rw [if_neg h2]
        exact ih _ V hV2 (fun d hd => hl d (by simp [hd])) (by omega)
theorem uintB_dg {l : List UInt8} (hl : ∀ c ∈ l, isDg c = true) (hn : l ≠ []) : Lib.parseUintB 64 l = if dv l ≤ 18446744073709551615 then .ok (dv l) else .range := by
  unfold Lib.parseUintB
  rw [if_neg hn]
  exact uintM_dg l 0 (dv l) rfl hl (by omega)
theorem intB_dg {l : List UInt8} (hl : ∀ c ∈ l, isDg c = true) (hn : l ≠ []) : Lib.parseIntB 64 l = if dv l < 9223372036854775808 then .ok (dv l : Int) else .range := by
  cases l with
  | nil => exact absurd rfl hn
  | cons c r =>
    have hc : 48 ≤ c.toNat ∧ c.toNat ≤ 57 := by have := hl c (by simp); simpa [isDg] using this
    rw [Lib.parseIntB_plain 64 c r (by omega) (by omega), uintB_dg hl (by simp)]
    generalize dv (c :: r) = v
    split
    · simp only [Lib.signlessC]
      have e : 2 ^ (64 - 1) = 9223372036854775808 := by decide
      rw [e]
      split
      · rw [if_neg (by omega)]
      · rw [if_pos (by omega)]
    · simp only [Lib.signlessC]
      rw [if_neg (by omega)]
theorem intB_neg {l : List UInt8} (hl : ∀ c ∈ l, isDg c = true) (hn : l ≠ []) : Lib.parseIntB 64 (45 :: l) = if dv l ≤ 9223372036854775808 then .ok (-(dv l : Int)) else .range := by
  rw [Lib.parseIntB_minus, uintB_dg hl hn]
  generalize dv l = v
  have e : 2 ^ (64 - 1) = 9223372036854775808 := by decide
  split
  · simp only [Lib.signedC]
    rw [e]
    split
    · rw [if_neg (by omega)]
    · rw [if_pos (by omega)]
  · simp only [Lib.signedC]
    rw [if_neg (by omega)]
/-- Digits stand from i to the place behind them. -/
theorem dgs_all (s : ByteArray) : ∀ i, i ≤ s.size → ∀ c ∈ (s.data.toList.drop i).take (dgs s i - i), isDg c = true := by
  intro i hi
  obtain ⟨n, hn⟩ : ∃ n, s.size - i = n := ⟨_, rfl⟩
  induction n generalizing i with
  | zero =>
    have : dgs s i ≤ s.size := dgs_le hi
    intro c hc
    have h2 := dgs_ge s i
    rw [show dgs s i - i = 0 by omega] at hc
    simp at hc
  | succ n ih =>
    by_cases h : i < s.size ∧ isDg (s.get! i) = true
    · have e := dgs_step h.1 h.2
      have h2 := dgs_ge s (i + 1)
      have hd : s.data.toList.drop i = s.get! i :: s.data.toList.drop (i + 1) := by
        rw [← get_bang_data s i h.1]
        exact List.drop_eq_getElem_cons (by rw [← Lib.size_eq]; exact h.1)
      rw [← e, hd, show dgs s (i + 1) - i = (dgs s (i + 1) - (i + 1)) + 1 by omega, List.take_succ_cons]
      intro c hc
      rcases List.mem_cons.1 hc with rfl | hc
      · exact h.2
      · exact ih (i + 1) (by omega) (by omega) c hc
    · have e := dgs_stop h
      rw [e, Nat.sub_self]
      intro c hc
      simp at hc
end Go.Proofs.YtbinmhcjadkmgaaDoor

/- The library's contracts that are used here (strconv_ParseInt_10_at64_ok, strconv_ParseInt_10_at64_range), laid at this seat's translation in plain words (the guide's own commands printed the layings). -/
namespace Go.Proofs
open Go.Shelf
def Tryd.laysC174_ren : Go.Shelf.Ren := ⟨fun | 174 => 63 | 247 => 80 | 245 => 81 | 287 => 89 | 279 => 90 | 280 => 91 | 281 => 92 | 282 => 93 | 321 => 95 | 322 => 96 | 316 => 97 | 171 => 99 | 205 => 98 | 243 => 101 | 246 => 39 | 283 => 53 | 284 => 54 | 285 => 55 | 286 => 56 | 129 => 71 | 317 => 70 | 318 => 72 | 319 => 73 | 320 => 74 | 337 => 83 | 338 => 84 | n => n, fun | 9 => 9 | 3 => 3 | 2 => 2 | 75 => 51 | 85 => 95 | 4 => 4 | 167 => 116 | 5 => 5 | 53 => 83 | 175 => 117 | 46 => 108 | 168 => 119 | 37 => 36 | 0 => 0 | 210 => 127 | 21 => 21 | 127 => 59 | 145 => 131 | 143 => 129 | 171 => 82 | 173 => 86 | 212 => 104 | 51 => 105 | 20 => 20 | 213 => 106 | 232 => 122 | 233 => 123 | 80 => 44 | n => n, fun | 15 => 4 | 16 => 5 | 17 => 0 | 18 => 1 | 19 => 2 | n => n⟩
theorem Tryd.laysC174 : Go.Proofs.LaysC.n174 Tryd.prog Tryd.laysC174_ren := {
  mixed := by kernel_rfl
  f129 := Tryd.func71.trans (congrArg some (by kernel_rfl))
  f171 := Tryd.func99.trans (congrArg some (by kernel_rfl))
  f174 := Tryd.func63.trans (congrArg some (by kernel_rfl))
  f205 := Tryd.func98.trans (congrArg some (by kernel_rfl))
  f243 := Tryd.func101.trans (congrArg some (by kernel_rfl))
  f245 := Tryd.func81.trans (congrArg some (by kernel_rfl))
  f246 := Tryd.func39.trans (congrArg some (by kernel_rfl))
  f247 := Tryd.func80.trans (congrArg some (by kernel_rfl))
  f279 := Tryd.func90.trans (congrArg some (by kernel_rfl))
  f280 := Tryd.func91.trans (congrArg some (by kernel_rfl))
  f281 := Tryd.func92.trans (congrArg some (by kernel_rfl))
  f282 := Tryd.func93.trans (congrArg some (by kernel_rfl))
  f283 := Tryd.func53.trans (congrArg some (by kernel_rfl))
  f284 := Tryd.func54.trans (congrArg some (by kernel_rfl))
  f285 := Tryd.func55.trans (congrArg some (by kernel_rfl))
  f286 := Tryd.func56.trans (congrArg some (by kernel_rfl))
  f287 := Tryd.func89.trans (congrArg some (by kernel_rfl))
  f316 := Tryd.func97.trans (congrArg some (by kernel_rfl))
  f317 := Tryd.func70.trans (congrArg some (by kernel_rfl))
  f318 := Tryd.func72.trans (congrArg some (by kernel_rfl))
  f319 := Tryd.func73.trans (congrArg some (by kernel_rfl))
  f320 := Tryd.func74.trans (congrArg some (by kernel_rfl))
  f321 := Tryd.func95.trans (congrArg some (by kernel_rfl))
  f322 := Tryd.func96.trans (congrArg some (by kernel_rfl))
  f337 := Tryd.func83.trans (congrArg some (by kernel_rfl))
  f338 := Tryd.func84.trans (congrArg some (by kernel_rfl))
  t0 := Tryd.underlying0
  a0 := Tryd.isAgg0
  z0 := Tryd.sizeOf0
  v0 := Tryd.zeroValue0
  t2 := Tryd.underlying2
  a2 := Tryd.isAgg2
  z2 := Tryd.sizeOf2
  v2 := Tryd.zeroValue2
  t3 := Tryd.underlying3
  a3 := Tryd.isAgg3
  z3 := Tryd.sizeOf3
  v3 := Tryd.zeroValue3
  t4 := Tryd.underlying4
  a4 := Tryd.isAgg4
  z4 := Tryd.sizeOf4
  v4 := Tryd.zeroValue4
  t5 := Tryd.underlying5
  a5 := Tryd.isAgg5
  z5 := Tryd.sizeOf5
  v5 := Tryd.zeroValue5
  t9 := Tryd.underlying9
  a9 := Tryd.isAgg9
  z9 := Tryd.sizeOf9
  v9 := Tryd.zeroValue9
  t20 := Tryd.underlying20
  a20 := Tryd.isAgg20
  z20 := Tryd.sizeOf20
  v20 := Tryd.zeroValue20
  t21 := Tryd.underlying21
  a21 := Tryd.isAgg21
  z21 := Tryd.sizeOf21
  v21 := Tryd.zeroValue21
  t37 := Tryd.underlying36
  a37 := Tryd.isAgg36
  z37 := Tryd.sizeOf36
  v37 := Tryd.zeroValue36
  t46 := Tryd.underlying108
  a46 := Tryd.isAgg108
  z46 := Tryd.sizeOf108
  v46 := Tryd.zeroValue108
  t51 := Tryd.underlying105
  a51 := Tryd.isAgg105
  z51 := Tryd.sizeOf105
  v51 := Tryd.zeroValue105
  t53 := Tryd.underlying83
  a53 := Tryd.isAgg83
  z53 := Tryd.sizeOf83
  v53 := Tryd.zeroValue83
  t75 := Tryd.underlying51
  a75 := Tryd.isAgg51
  z75 := Tryd.sizeOf51
  v75 := Tryd.zeroValue51
  t85 := Tryd.underlying95
  a85 := Tryd.isAgg95
  z85 := Tryd.sizeOf95
  v85 := Tryd.zeroValue95
  t127 := Tryd.underlying59
  a127 := Tryd.isAgg59
  z127 := Tryd.sizeOf59
  v127 := Tryd.zeroValue59
  t143 := Tryd.underlying129
  a143 := Tryd.isAgg129
  z143 := Tryd.sizeOf129
  v143 := Tryd.zeroValue129
  t145 := Tryd.underlying131
  a145 := Tryd.isAgg131
  z145 := Tryd.sizeOf131
  v145 := Tryd.zeroValue131
  t167 := Tryd.underlying116
  a167 := Tryd.isAgg116
  z167 := Tryd.sizeOf116
  v167 := Tryd.zeroValue116
  t168 := Tryd.underlying119
  a168 := Tryd.isAgg119
  z168 := Tryd.sizeOf119
  v168 := Tryd.zeroValue119
  t171 := Tryd.underlying82
  a171 := Tryd.isAgg82
  z171 := Tryd.sizeOf82
  v171 := Tryd.zeroValue82
  t173 := Tryd.underlying86
  a173 := Tryd.isAgg86
  z173 := Tryd.sizeOf86
  v173 := Tryd.zeroValue86
  t175 := Tryd.underlying117
  a175 := Tryd.isAgg117
  z175 := Tryd.sizeOf117
  v175 := Tryd.zeroValue117
  t210 := Tryd.underlying127
  a210 := Tryd.isAgg127
  z210 := Tryd.sizeOf127
  v210 := Tryd.zeroValue127
  t212 := Tryd.underlying104
  a212 := Tryd.isAgg104
  z212 := Tryd.sizeOf104
  v212 := Tryd.zeroValue104
  t213 := Tryd.underlying106
  a213 := Tryd.isAgg106
  z213 := Tryd.sizeOf106
  t232 := Tryd.underlying122
  a232 := Tryd.isAgg122
  z232 := Tryd.sizeOf122
  v232 := Tryd.zeroValue122
  t233 := Tryd.underlying123
  a233 := Tryd.isAgg123
  z233 := Tryd.sizeOf123
  v233 := Tryd.zeroValue123
  g15 := by kernel_rfl
  g16 := by kernel_rfl
  g17 := by kernel_rfl
  g18 := by kernel_rfl
  g19 := by kernel_rfl
  t80 := Tryd.underlying44
  a80 := Tryd.isAgg44
  z80 := Tryd.sizeOf44
  v80 := Tryd.zeroValue44
  i0 := by kernel_rfl
  i2 := by kernel_rfl
  i3 := by kernel_rfl
  i4 := by kernel_rfl
  i5 := by kernel_rfl
  i9 := by kernel_rfl
  i20 := by kernel_rfl
  i21 := by kernel_rfl
  i37 := by kernel_rfl
  i46 := by kernel_rfl
  i51 := by kernel_rfl
  i53 := by kernel_rfl
  i75 := by kernel_rfl
  i80 := by kernel_rfl
  i85 := by kernel_rfl
  i127 := by kernel_rfl
  i143 := by kernel_rfl
  i145 := by kernel_rfl
  i167 := by kernel_rfl
  i168 := by kernel_rfl
  i171 := by kernel_rfl
  i173 := by kernel_rfl
  i175 := by kernel_rfl
  i210 := by kernel_rfl
  i212 := by kernel_rfl
  i232 := by kernel_rfl
  i233 := by kernel_rfl
  m15 := by kernel_rfl
  m16 := by kernel_rfl
  m17 := by kernel_rfl
  m18 := by kernel_rfl
  m19 := by kernel_rfl
  c0 := by kernel_rfl
  c2 := by kernel_rfl
  c3 := by kernel_rfl
  c4 := by kernel_rfl
  c5 := by kernel_rfl
  c9 := by kernel_rfl
  c20 := by kernel_rfl
  c21 := by kernel_rfl
  c37 := by kernel_rfl
  c46 := by kernel_rfl
  c51 := by kernel_rfl
  c53 := by kernel_rfl
  c75 := by kernel_rfl
  c80 := by kernel_rfl
  c85 := by kernel_rfl
  c127 := by kernel_rfl
  c143 := by kernel_rfl
  c145 := by kernel_rfl
  c167 := by kernel_rfl
  c168 := by kernel_rfl
  c171 := by kernel_rfl
  c173 := by kernel_rfl
  c175 := by kernel_rfl
  c210 := by kernel_rfl
  c212 := by kernel_rfl
  c213 := by kernel_rfl
  c232 := by kernel_rfl
  c233 := by kernel_rfl }
open Go.RowKit in
theorem Tryd.strconv_ParseInt_10_at64_ok (s : ByteArray) (hmax : s.size ≤ 9223372036854775806) (v : Int) (h : Lib.parseIntB 64 s.data.toList = .ok v) (w : World) :
    Calls Tryd.prog 63 #[.string s, .int .i64 10, .int .i64 64] w fun e w' => e = .returned (.tuple #[.int .i64 v, .nilIface]) ∧ (w' = w ∨ ∃ t, w' = Lib.bytesWorld w 5 t) := Any.strconv_ParseInt_10_at64_ok Tryd.laysC174 s hmax v h w
open Go.RowKit in
theorem Tryd.strconv_ParseInt_10_at64_range (s : ByteArray) (hlim : s.size ≤ 281474976710656) (h : Lib.parseIntB 64 s.data.toList = .range) (ev : Value) (w : World) (hv : w.cell? ⟨5, 0, none⟩ = some ev) (hev : ev = .nilIface ∨ ∃ te pe, ev = .iface te pe) :
    Calls Tryd.prog 63 #[.string s, .int .i64 10, .int .i64 64] w fun e w' => ∃ N, e = .returned (.tuple #[.int .i64 (Lib.intSat 64 s.data.toList), .iface 119 (.pointer (some ⟨N, 0, none⟩))]) ∧ w.heap.size ≤ N ∧ w'.heap[N]? = some (.cells #[.string ⟨#[80, 97, 114, 115, 101, 73, 110, 116]⟩, .string s, ev] 127 (0, 0)) ∧ Below w.heap.size w w' := Any.strconv_ParseInt_10_at64_range Tryd.laysC174 s hlim h ev w hv hev
end Go.Proofs

/- cascade/json's reader: numbers. -/
set_option linter.unusedVariables false
set_option linter.unusedSimpArgs false
namespace Go.Proofs.YtbinmhcjadkmgaaDoor
open Go.RowKit
theorem ext_none (s : ByteArray) (i : Nat) : s.extract i i = ⟨#[]⟩ := by
  rw [Lib.extract_eq, Nat.sub_self, List.take_zero]
theorem ext_size {s : ByteArray} {i e : Nat} (h : e ≤ s.size) : (s.extract i e).size = e - i := by
  rw [ByteArray.size_extract, Nat.min_eq_left h]
theorem ext_some {s : ByteArray} {i e : Nat} (h : i < e) (he : e ≤ s.size) : ¬ s.extract i e = ⟨#[]⟩ := fun q => by
  have h1 := ext_size (s := s) (i := i) he
  rw [q] at h1
  have : (⟨#[]⟩ : ByteArray).size = 0 := rfl
  omega
theorem ext_list {s : ByteArray} {i e : Nat} : (s.extract i e).data.toList = (s.data.toList.drop i).take (e - i) := by rw [Lib.extract_eq]
theorem at_cons {s : ByteArray} {i : Nat} (h : i < s.size) : s.data.toList.drop i = s.get! i :: s.data.toList.drop (i + 1) := by
  rw [← get_bang_data s i h]
  exact List.drop_eq_getElem_cons (by rw [← Lib.size_eq]; exact h)
theorem ext_first {s : ByteArray} {i e : Nat} (h : i < e) (he : e ≤ s.size) (hp : 0 < (s.extract i e).size) : (s.extract i e)[0].toNat = (s.get! i).toNat := by
  have h1 := get_bang_data (s.extract i e) 0 hp
  rw [get_bang (s.extract i e) 0 hp] at h1
  rw [← h1]
  have h2 : (s.extract i e).data.toList = s.get! i :: (s.data.toList.drop (i + 1)).take (e - i - 1) := by
    rw [ext_list, at_cons (by omega), show e - i = (e - i - 1) + 1 by omega, List.take_succ_cons]
    rfl
  simp only [h2, List.getElem_cons_zero]
theorem ext_1e {s : ByteArray} {i e : Nat} (he : e ≤ s.size) (h : e = i + 1) (h0 : (s.get! i).toNat = 48) : s.extract i e = ⟨#[48]⟩ := by
  subst h
  apply ByteArray.ext
  apply Array.toList_inj.1
  rw [ext_list, at_cons (by omega), show i + 1 - i = 0 + 1 by omega, List.take_succ_cons, List.take_zero, u48 h0]
theorem ext_not {s : ByteArray} {i e : Nat} (h : i < e) (he : e ≤ s.size) (hn : ¬ (e = i + 1 ∧ (s.get! i).toNat = 48)) : ¬ s.extract i e = ⟨#[48]⟩ := fun q => by
  have h1 := ext_size (s := s) (i := i) he
  have h2 := ext_first h he (by omega)
  have h3 : (s.extract i e).size = 1 := by rw [q]; rfl
  refine hn ⟨by omega, ?_⟩
  rw [← h2]
  simp only [q]
  rfl
theorem l48 : (⟨#[48]⟩ : ByteArray).toList = [48] := by decide +kernel
theorem parse_num {s : ByteArray} {a fi e : Nat} {nb : Bool} (ha : a ≤ s.size) (hn : neg1 s a = nb) (hf : fst1 s a = fi) (he : dgs s fi = e) (hlt : fi < e) :
    Lib.parseIntB 64 (s.extract a e).data.toList = if nb = true then (if dvl s fi e ≤ 9223372036854775808 then .ok (-(dvl s fi e : Int)) else .range) else (if dvl s fi e < 9223372036854775808 then .ok (dvl s fi e : Int) else .range) := by
  have hfin := fst1_in ha
  rw [hf] at hfin
  have hall := dgs_all s fi hfin.2
  rw [he] at hall
  have hes : e ≤ s.size := by rw [← he]; exact dgs_le hfin.2
  have hne : (s.data.toList.drop fi).take (e - fi) ≠ [] := fun q => by
    have := congrArg List.length q
    rw [List.length_take, List.length_drop, ← Lib.size_eq] at this
    simp at this
    omega
  cases nb
  · have e1 : fi = a := by rw [← hf]; unfold fst1; rw [hn]; rfl
    subst e1
    rw [ext_list, intB_dg hall hne]
    simp only [Bool.false_eq_true, if_false]
    rfl
  · have e1 : fi = a + 1 := by rw [← hf]; unfold fst1; rw [hn]; rfl
    subst e1
    have h45 : s.get! a = 45 := by
      unfold neg1 at hn
      rw [pre_drop, at_cons (by omega)] at hn
      simp only [List.isPrefixOf, Bool.and_true, beq_iff_eq] at hn
      exact hn.symm
    rw [ext_list, at_cons (by omega), show e - a = (e - (a + 1)) + 1 by omega, List.take_succ_cons, h45, intB_neg hall hne]
    simp only [if_true]
    rfl
theorem int_ok (t : ByteArray) (v : Int) (h : Lib.parseIntB 64 t.data.toList = .ok v) (ht : t.size ≤ 1000000) (w : World) : Calls Tryd.prog 63 #[.string t, .int .i64 10, .int .i64 64] w fun e w' => e = .returned (.tuple #[.int .i64 v, .nilIface]) ∧ Below w.heap.size w w' :=
  (Tryd.strconv_ParseInt_10_at64_ok t (by omega) v h w).mono (by
    rintro e w' ⟨rfl, hw⟩
    refine ⟨rfl, ?_⟩
    rcases hw with rfl | ⟨t2, rfl⟩
    · exact Below.refl _ _
    · exact Lib.bytesWorld_below _ _ _)
theorem takes_neg (R : Nat) (s : ByteArray) (a : Nat) (e b : Int) (w : World) (h : Rdr w R s a e b) (ha : a ≤ s.size) (hs : s.size ≤ 1000000) : Calls Tryd.prog 62 #[.pointer (some ⟨R, 0, none⟩), .string ⟨#[45]⟩] w fun e' w' => e' = .returned (.bool (neg1 s a)) ∧ RdP R w s (fst1 s a) e b w' := by
  unfold fst1
  cases hn : neg1 s a
  · exact takes_no R s ⟨#[45]⟩ a e b w h ha hs hn
  · exact takes_yes R s ⟨#[45]⟩ a e b w h ha hs hn
/-- A number was read, or there is an error. -/
def NmR (R : Nat) (s : ByteArray) (b : Int) (g : Got) (w : World) (e : Ending) (w' : World) : Prop :=
  ∃ n : Int, e = .returned (.int .i64 n) ∧ ((∃ j : Nat, g = .ok (leafV 2 n) j ∧ RdP R w s j 0 b w') ∨ (∃ (er : Int) (bd : Nat), g = .no er bd ∧ ∃ a' : Nat, a' ≤ s.size ∧ RdP R w s a' er bd w'))
end Go.Proofs.YtbinmhcjadkmgaaDoor

/- cascade/json's reader: numbers, ax. -/
set_option linter.unusedVariables false
set_option linter.unusedSimpArgs false
namespace Go.Proofs.YtbinmhcjadkmgaaDoor
open Go.RowKit
set_option maxHeartbeats 40000000 in
set_option maxRecDepth 100000 in
theorem number_ax (R : Nat) (s : ByteArray) (a : Nat) (b : Int) (w : World) (h : Rdr w R s a 0 b) (ha : a ≤ s.size) (hs : s.size ≤ 1000000) (hE : EV R w) (hnb : neg1 s a = false) (hex : dgs s (fst1 s a) = s.size) : Calls Tryd.prog 46 #[.pointer (some ⟨R, 0, none⟩)] w fun e w' => NmR R s b (numG s a) w e w' := by
  have K1 := Lib.hid (takes_neg R s a 0 b w h ha hs)
  have HEV := Lib.hid hE
  have c1 := h.c1
  have hfin := fst1_in ha
  obtain ⟨fi, hfi⟩ : ∃ fi, fst1 s a = fi := ⟨_, rfl⟩
  rw [hfi] at hex
  obtain ⟨e, hee⟩ : ∃ e, dgs s fi = e := ⟨_, rfl⟩
  rw [hee] at hex
  have HEX := Lib.hid hex
  clear hex
  rw [hnb, hfi] at K1
  rw [hfi] at hfin
  obtain ⟨hfa, hfs⟩ := hfin
  have hge : fi ≤ e := by rw [← hee]; exact dgs_ge s fi
  have hes : e ≤ s.size := by rw [← hee]; exact dgs_le hfs
  have HN := Lib.hid hnb
  have HF := Lib.hid hfi
  have HE := Lib.hid hee
  clear h hE hnb hfi hee
  go_enter Tryd.func46, Tryd.ntmps46
  go_wp2_with fail
  refine K1.out.mono ?_
  rintro e' w1 ⟨rfl, h1⟩
  have H1 := Lib.hid h1
  have c1 := h1.1.c1
  clear h1 K1
  go_wp2_with fail
  go_loopw [] (fun wr => ∃ i : Nat, i ≤ e ∧ RdP R w s i 0 b wr ∧ dgs s i = e) (fun wr => s.size - rdAt R wr)
  case atStart => exact ⟨fi, hge, H1.out, HE.out⟩
  case round =>
    clear H1 c1
    obtain ⟨i, hi, hp, hdi⟩ := hrel
    have c0 := hp.1.c0
    have c1 := hp.1.c1
    have f1 := hp.1.fz 1
    have HP := Lib.hid hp
    have HDI := Lib.hid hdi
    clear hp hdi
    by_cases hie : i < e
    · have hlt : i < s.size := by omega
      have hgb := get_bang s i hlt
      have hdg : isDg (s[i]'hlt) = true := by
        cases hq : isDg (s[i]'hlt)
        · have := dgs_stop (s := s) (i := i) (fun x => by rw [hgb, hq] at x; cases x.2)
          have := HDI.out
          omega
        · rfl
      have HX := Lib.hid (dgs_step (s := s) hlt (by rw [hgb]; exact hdg))
      have KD : Hid (∀ n, Calls Tryd.prog 45 #[.int .u8 (s[i]'hlt).toNat] (wr.drewN n) fun e w' => e = .returned (.bool true) ∧ ∃ m, w' = wr.drewN m) := Lib.hid (fun n => (digit_any _ _).mono (by rintro e w' ⟨rfl, rfl⟩; exact ⟨by rw [hdg], n, rfl⟩))
      clear hgb hdg
      go_wp2_with fail
      go_quiet (first
        | (go_at_call 45; exact KD.out _)
        | fail)
      go_wp2_with fail
      have HQ := (HP.out.drewN nq).set1 (((i + 1 : Nat) : Int))
      rw [Int.natCast_add] at HQ
      refine ⟨⟨i + 1, by omega, by rw [Int.natCast_add]; exact HQ, by rw [HX.out, HDI.out]⟩, ?_⟩
      have e1 := HQ.1.rdAt (a := i + 1)
      have e2 := HP.out.1.rdAt
      rw [e2]
      have e3 : rdAt R ((wr.drewN nq).setCell ⟨R, 1, none⟩ (.int .i64 ((i : Int) + 1))) = i + 1 := e1
      rw [e3]
      omega
    · obtain rfl : e = i := by omega
      have hns : ¬ e < s.size := by have := HEX.out; omega
      go_wp2_with fail
      go_quiet (fail)
      have HP := Lib.hid (HP.out.drewN nq)
      generalize wr.drewN nq = wr at HP ⊢
      clear HDI c0 c1 f1
      have c0 := HP.out.1.c0
      have c1 := HP.out.1.c1
      go_wp2_with fail
      go_quiet (fail)
      have HP5 := Lib.hid (HP.out.drewN nq)
      generalize wr.drewN nq = w5 at HP5 ⊢
      clear HP
      have hR5 := HP5.out.1.lt
      by_cases hA : e = fi
      · have HG : Hid (numG s a = .no 4 a) := Lib.hid (by unfold numG; rw [HF.out, HE.out, if_pos (.inl hA)])
        have hD : (s.extract fi e).toList.isEmpty = true := is_empty (by rw [ext_size hes]; omega)
        clear hA
        generalize s.extract fi e = D at hD ⊢
        go_wp2_with fail
        refine (fail_first R s _ b a 4 w5 HP5.out.1).mono ?_
        rintro e' wf ⟨rfl, hf⟩
        go_wp2_with fail
        go_ret
        exact ⟨0, rfl, .inr ⟨4, a, HG.out, e, hes, HP5.out.trans hf⟩⟩
      have hlt : fi < e := by omega
      have hfs : fi < s.size := by omega
      have hD : (s.extract fi e).toList.isEmpty = false := ne_empty (by rw [ext_size hes]; omega)
      have hds := ext_size (s := s) (i := fi) hes
      have hd0 := ext_first (s := s) hlt hes
      have HD1 := Lib.hid (fun (h1 : e = fi + 1) (h2 : (s.get! fi).toNat = 48) => ext_1e (s := s) hes h1 h2)
      have HD2 := Lib.hid (fun (h : ¬ (e = fi + 1 ∧ (s.get! fi).toNat = 48)) => ext_not (s := s) hlt hes h)
      clear HD1 HD2
      have hp0 : 0 < (s.extract fi e).size := by omega
      by_cases hC : (s.get! fi).toNat = 48 ∧ fi + 1 < e
      · have HG : Hid (numG s a = .no 4 (fi + 1)) := Lib.hid (by unfold numG; rw [HF.out, HE.out, HN.out, if_neg (fun q => by rcases q with q | q; exact hA q; exact absurd q.1 (by decide)), if_pos hC])
        have hsz : 1 < (s.extract fi e).size := by omega
        have d48 : (((s.extract fi e)[0].toNat : Int) == 48) = true := by rw [hd0 hp0, hC.1]; rfl
        have hfi1 : fi + 1 ≤ 2000000 := by omega
        clear hA hC hds hd0 
        generalize s.extract fi e = D at hD  hp0 hsz d48 ⊢
        go_wp2_with fail
        refine (fail_first R s _ b ((fi : Int) + 1) 4 w5 HP5.out.1).mono ?_
        rintro e' wf ⟨rfl, hf⟩
        go_wp2_with fail
        go_ret
        exact ⟨0, rfl, .inr ⟨4, fi + 1, HG.out, e, hes, by rw [Int.natCast_add]; exact HP5.out.trans hf⟩⟩
      have HNC := Lib.hid hC
      have hae : a ≤ e := by omega
      have HPN := Lib.hid (parse_num ha HN.out HF.out HE.out hlt)
      obtain ⟨V, hV⟩ : ∃ V, dvl s fi e = V := ⟨_, rfl⟩
      have HV := Lib.hid hV
      have HG0 := Lib.hid (show ∀ V, dvl s fi e = V → numG s a = if 9007199254740991 < V then .no 6 a else .ok (leafV 2 (V : Int)) e by
        rintro V rfl
        unfold numG
        rw [HF.out, HE.out, HN.out, if_neg (fun q => by rcases q with q | q; exact hA q; exact absurd q.1 (by decide)), if_neg hC]
        rfl)
      have hchk : (((s.extract fi e)[0].toNat : Int) == 48) = false ∨ ((((s.extract fi e)[0].toNat : Int) == 48) = true ∧ (s.extract fi e).size ≤ 1) := by
        rw [hd0 hp0]
        by_cases q : (s.get! fi).toNat = 48
        · exact .inr ⟨by rw [q]; rfl, by have : ¬ fi + 1 < e := fun r => hC ⟨q, r⟩; omega⟩
        · exact .inl (by simp; omega)
      clear hA hC hds hd0 hV 
      generalize s.extract fi e = D at hD  hp0 hchk ⊢
      by_cases hL : 9007199254740991 < V
      · have HG : Hid (numG s a = .no 6 a) := Lib.hid (by rw [HG0.out V HV.out, if_pos hL])
        by_cases hF : V < 9223372036854775808
        · have HI : Hid (Lib.parseIntB 64 (s.extract a e).data.toList = .ok (V : Int)) := Lib.hid (by rw [HPN.out, HV.out]; simp only [Bool.false_eq_true, if_false]; exact if_pos hF)
          obtain ⟨v, hv⟩ : ∃ v : Int, v = (V : Int) := ⟨_, rfl⟩
          have hv2 : 9007199254740991 < v := by omega
          have hv3 : -9223372036854775808 ≤ v ∧ v ≤ 9223372036854775807 := by omega
          obtain ⟨hv4, hv5⟩ := hv3
          have KM : Hid (∀ x : BlwBy w5, Calls Tryd.prog 63 #[.string (s.extract a e), .int .i64 10, .int .i64 64] x.now fun e' w'' => e' = .returned (.tuple #[.int .i64 v, .nilIface]) ∧ ∃ q : BlwBy w5, w'' = q.now) := Lib.hid (fun x => Calls.below_of (int_ok (s.extract a e) v (by rw [hv]; exact HI.out) (by rw [ByteArray.size_extract]; omega) x.now))
          have C0 : ∀ x : BlwBy w5, x.now.cell? ⟨R, 0, none⟩ = some (.string s) := fun x => x.cell hR5 HP5.out.1.c0
          have C1 : ∀ x : BlwBy w5, x.now.cell? ⟨R, 1, none⟩ = some (.int .i64 e) := fun x => x.cell hR5 HP5.out.1.c1
          clear hv hL hF
          rcases hchk with d48 | ⟨d48, hsz⟩
          all_goals
            go_wp2_with fail
            refine wp_quiet_below (by kernel_rfl) (by kernel_rfl) ?_
            repeat (quiet_step (first | (go_at_call 63; exact KM.out _)))
            refine wpQuiet_nil ?_
            intro w9 hw'
            have hb9 : Below w5.heap.size w5 w9 := by obtain ⟨⟨wx, hbx⟩, hw''⟩ := hw'; rw [hw'']; exact hbx
            clear hw' KM C0 C1
            have H9 := Lib.hid (HP5.out.below hb9)
            clear hb9
            go_wp2_with fail
            refine (fail_first R s _ b a 6 w9 H9.out.1).mono ?_
            rintro e' wf ⟨rfl, hf⟩
            go_wp2_with fail
            go_ret
            exact ⟨0, rfl, .inr ⟨6, a, HG.out, e, hes, H9.out.trans hf⟩⟩
        · have HI : Hid (Lib.parseIntB 64 (s.extract a e).data.toList = .range) := Lib.hid (by rw [HPN.out, HV.out]; simp only [Bool.false_eq_true, if_false]; exact if_neg hF)
          obtain ⟨te, pe, hev⟩ := (HEV.out.rd HP5.out w5.drew ((Below.refl _ _).drew)).2
          have KM := Lib.hid (Tryd.strconv_ParseInt_10_at64_range (s.extract a e) (by rw [ByteArray.size_extract]; omega) HI.out _ w5.drew hev (.inr ⟨te, pe, rfl⟩))
          have HP6 := Lib.hid HP5.out.drew
          have c0 := HP5.out.1.c0
          have c1 := HP5.out.1.c1
          have HS0 := Lib.hid (show w5.drew.cell? ⟨R, 0, none⟩ = some (.string s) ∧ w5.drew.cell? ⟨R, 1, none⟩ = some (.int .i64 e) from ⟨HP6.out.1.c0, HP6.out.1.c1⟩)
          have HS1 := Lib.hid (show ∀ wF, Below w5.drew.heap.size w5.drew wF → wF.cell? ⟨R, 0, none⟩ = some (.string s) ∧ wF.cell? ⟨R, 1, none⟩ = some (.int .i64 e) from fun wF hb => ⟨(HP6.out.below hb).1.c0, (HP6.out.below hb).1.c1⟩)
          generalize Lib.intSat 64 (s.extract a e).data.toList = sat at KM
          clear hev hL hF
          rcases hchk with d48 | ⟨d48, hsz⟩
          all_goals
            go_wp2_with fail
            go_region_held3 (fun w' => w'.cell? ⟨R, 0, none⟩ = some (.string s) ∧ w'.cell? ⟨R, 1, none⟩ = some (.int .i64 e))
              (first
                | (have h7 := HS1.out _ hbF; with_reducible exact h7)
                | (have h7 := HS0.out; with_reducible exact h7)
                | fail)
              (first
                | (go_at_call 63; refine KM.out.mono ?_; rintro e' wF ⟨N, rfl, hN, hNc, hbF⟩)
                | fail)
          all_goals
            have H9 := Lib.hid (HP6.out.below hbF)
            clear hN hNc hbF
            go_wp2_with fail
            refine (fail_first R s _ b a 6 _ H9.out.1).mono ?_
            rintro e' wf ⟨rfl, hf⟩
            go_wp2_with fail
            go_ret
            exact ⟨0, rfl, .inr ⟨6, a, HG.out, e, hes, H9.out.trans hf⟩⟩
      · have HI : Hid (Lib.parseIntB 64 (s.extract a e).data.toList = .ok (V : Int)) := Lib.hid (by rw [HPN.out, HV.out]; simp only [Bool.false_eq_true, if_false]; exact if_pos (by omega))
        have HG : Hid (numG s a = .ok (leafV 2 (V : Int)) e) := Lib.hid (by rw [HG0.out V HV.out, if_neg hL])
        obtain ⟨v, hv⟩ : ∃ v : Int, v = (V : Int) := ⟨_, rfl⟩
        have hv1 : -9007199254740991 ≤ v := by omega
        have hv2 : v ≤ 9007199254740991 := by omega
        have KM : Hid (∀ x : BlwBy w5, Calls Tryd.prog 63 #[.string (s.extract a e), .int .i64 10, .int .i64 64] x.now fun e' w'' => e' = .returned (.tuple #[.int .i64 v, .nilIface]) ∧ ∃ q : BlwBy w5, w'' = q.now) := Lib.hid (fun x => Calls.below_of (int_ok (s.extract a e) v (by rw [hv]; exact HI.out) (by rw [ByteArray.size_extract]; omega) x.now))
        have C0 : ∀ x : BlwBy w5, x.now.cell? ⟨R, 0, none⟩ = some (.string s) := fun x => x.cell hR5 HP5.out.1.c0
        have C1 : ∀ x : BlwBy w5, x.now.cell? ⟨R, 1, none⟩ = some (.int .i64 e) := fun x => x.cell hR5 HP5.out.1.c1
        rw [← hv] at HG
        clear hv hL
        rcases hchk with d48 | ⟨d48, hsz⟩
        all_goals
          go_wp2_with fail
          refine wp_quiet_below (by kernel_rfl) (by kernel_rfl) ?_
          repeat (quiet_step (first | (go_at_call 63; exact KM.out _)))
          refine wpQuiet_nil ?_
          intro w9 hw'
          have hb9 : Below w5.heap.size w5 w9 := by obtain ⟨⟨wx, hbx⟩, hw''⟩ := hw'; rw [hw'']; exact hbx
          clear hw' KM C0 C1
          have H9 := Lib.hid (HP5.out.below hb9)
          clear hb9
          go_wp2_with fail
          go_ret
          exact ⟨v, rfl, .inl ⟨e, HG.out, H9.out⟩⟩
end Go.Proofs.YtbinmhcjadkmgaaDoor

/- cascade/json's reader: numbers, ay. -/
set_option linter.unusedVariables false
set_option linter.unusedSimpArgs false
namespace Go.Proofs.YtbinmhcjadkmgaaDoor
open Go.RowKit
set_option maxHeartbeats 40000000 in
set_option maxRecDepth 100000 in
theorem number_ay (R : Nat) (s : ByteArray) (a : Nat) (b : Int) (w : World) (h : Rdr w R s a 0 b) (ha : a ≤ s.size) (hs : s.size ≤ 1000000) (hE : EV R w) (hnb : neg1 s a = false) (hex : dgs s (fst1 s a) < s.size) : Calls Tryd.prog 46 #[.pointer (some ⟨R, 0, none⟩)] w fun e w' => NmR R s b (numG s a) w e w' := by
  have K1 := Lib.hid (takes_neg R s a 0 b w h ha hs)
  have HEV := Lib.hid hE
  have c1 := h.c1
  have hfin := fst1_in ha
  obtain ⟨fi, hfi⟩ : ∃ fi, fst1 s a = fi := ⟨_, rfl⟩
  rw [hfi] at hex
  obtain ⟨e, hee⟩ : ∃ e, dgs s fi = e := ⟨_, rfl⟩
  rw [hee] at hex
  rw [hnb, hfi] at K1
  rw [hfi] at hfin
  obtain ⟨hfa, hfs⟩ := hfin
  have hge : fi ≤ e := by rw [← hee]; exact dgs_ge s fi
  have hes : e ≤ s.size := by rw [← hee]; exact dgs_le hfs
  have HN := Lib.hid hnb
  have HF := Lib.hid hfi
  have HE := Lib.hid hee
  clear h hE hnb hfi hee
  go_enter Tryd.func46, Tryd.ntmps46
  go_wp2_with fail
  refine K1.out.mono ?_
  rintro e' w1 ⟨rfl, h1⟩
  have H1 := Lib.hid h1
  have c1 := h1.1.c1
  clear h1 K1
  go_wp2_with fail
  go_loopw [] (fun wr => ∃ i : Nat, i ≤ e ∧ RdP R w s i 0 b wr ∧ dgs s i = e) (fun wr => s.size - rdAt R wr)
  case atStart => exact ⟨fi, hge, H1.out, HE.out⟩
  case round =>
    clear H1 c1
    obtain ⟨i, hi, hp, hdi⟩ := hrel
    have c0 := hp.1.c0
    have c1 := hp.1.c1
    have f1 := hp.1.fz 1
    have HP := Lib.hid hp
    have HDI := Lib.hid hdi
    clear hp hdi
    by_cases hie : i < e
    · have hlt : i < s.size := by omega
      have hgb := get_bang s i hlt
      have hdg : isDg (s[i]'hlt) = true := by
        cases hq : isDg (s[i]'hlt)
        · have := dgs_stop (s := s) (i := i) (fun x => by rw [hgb, hq] at x; cases x.2)
          have := HDI.out
          omega
        · rfl
      have HX := Lib.hid (dgs_step (s := s) hlt (by rw [hgb]; exact hdg))
      have KD : Hid (∀ n, Calls Tryd.prog 45 #[.int .u8 (s[i]'hlt).toNat] (wr.drewN n) fun e w' => e = .returned (.bool true) ∧ ∃ m, w' = wr.drewN m) := Lib.hid (fun n => (digit_any _ _).mono (by rintro e w' ⟨rfl, rfl⟩; exact ⟨by rw [hdg], n, rfl⟩))
      clear hgb hdg
      go_wp2_with fail
      go_quiet (first
        | (go_at_call 45; exact KD.out _)
        | fail)
      go_wp2_with fail
      have HQ := (HP.out.drewN nq).set1 (((i + 1 : Nat) : Int))
      rw [Int.natCast_add] at HQ
      refine ⟨⟨i + 1, by omega, by rw [Int.natCast_add]; exact HQ, by rw [HX.out, HDI.out]⟩, ?_⟩
      have e1 := HQ.1.rdAt (a := i + 1)
      have e2 := HP.out.1.rdAt
      rw [e2]
      have e3 : rdAt R ((wr.drewN nq).setCell ⟨R, 1, none⟩ (.int .i64 ((i : Int) + 1))) = i + 1 := e1
      rw [e3]
      omega
    · obtain rfl : e = i := by omega
      have hgb := get_bang s e hex
      have hdg : isDg (s[e]'hex) = false := by
        cases hq : isDg (s[e]'hex)
        · rfl
        · have h1 := dgs_step (s := s) hex (by rw [hgb]; exact hq)
          have h2 := dgs_ge s (e + 1)
          have h3 := HDI.out
          omega
      have KD : Hid (∀ n, Calls Tryd.prog 45 #[.int .u8 (s[e]'hex).toNat] (wr.drewN n) fun e w' => e = .returned (.bool false) ∧ ∃ m, w' = wr.drewN m) := Lib.hid (fun n => (digit_any _ _).mono (by rintro e w' ⟨rfl, rfl⟩; exact ⟨by rw [hdg], n, rfl⟩))
      clear hgb hdg
      go_wp2_with fail
      go_quiet (first
        | (go_at_call 45; exact KD.out _)
        | fail)
      have HP := Lib.hid (HP.out.drewN nq)
      generalize wr.drewN nq = wr at HP ⊢
      clear HDI c0 c1 f1
      have c0 := HP.out.1.c0
      have c1 := HP.out.1.c1
      go_wp2_with fail
      go_quiet (fail)
      have HP5 := Lib.hid (HP.out.drewN nq)
      generalize wr.drewN nq = w5 at HP5 ⊢
      clear HP
      have hR5 := HP5.out.1.lt
      by_cases hA : e = fi
      · have HG : Hid (numG s a = .no 4 a) := Lib.hid (by unfold numG; rw [HF.out, HE.out, if_pos (.inl hA)])
        have hD : (s.extract fi e).toList.isEmpty = true := is_empty (by rw [ext_size hes]; omega)
        clear hA
        generalize s.extract fi e = D at hD ⊢
        go_wp2_with fail
        refine (fail_first R s _ b a 4 w5 HP5.out.1).mono ?_
        rintro e' wf ⟨rfl, hf⟩
        go_wp2_with fail
        go_ret
        exact ⟨0, rfl, .inr ⟨4, a, HG.out, e, hes, HP5.out.trans hf⟩⟩
      have hlt : fi < e := by omega
      have hfs : fi < s.size := by omega
      have hD : (s.extract fi e).toList.isEmpty = false := ne_empty (by rw [ext_size hes]; omega)
      have hds := ext_size (s := s) (i := fi) hes
      have hd0 := ext_first (s := s) hlt hes
      have HD1 := Lib.hid (fun (h1 : e = fi + 1) (h2 : (s.get! fi).toNat = 48) => ext_1e (s := s) hes h1 h2)
      have HD2 := Lib.hid (fun (h : ¬ (e = fi + 1 ∧ (s.get! fi).toNat = 48)) => ext_not (s := s) hlt hes h)
      clear HD1 HD2
      have hp0 : 0 < (s.extract fi e).size := by omega
      by_cases hC : (s.get! fi).toNat = 48 ∧ fi + 1 < e
      · have HG : Hid (numG s a = .no 4 (fi + 1)) := Lib.hid (by unfold numG; rw [HF.out, HE.out, HN.out, if_neg (fun q => by rcases q with q | q; exact hA q; exact absurd q.1 (by decide)), if_pos hC])
        have hsz : 1 < (s.extract fi e).size := by omega
        have d48 : (((s.extract fi e)[0].toNat : Int) == 48) = true := by rw [hd0 hp0, hC.1]; rfl
        have hfi1 : fi + 1 ≤ 2000000 := by omega
        clear hA hC hds hd0 
        generalize s.extract fi e = D at hD  hp0 hsz d48 ⊢
        go_wp2_with fail
        refine (fail_first R s _ b ((fi : Int) + 1) 4 w5 HP5.out.1).mono ?_
        rintro e' wf ⟨rfl, hf⟩
        go_wp2_with fail
        go_ret
        exact ⟨0, rfl, .inr ⟨4, fi + 1, HG.out, e, hes, by rw [Int.natCast_add]; exact HP5.out.trans hf⟩⟩
      have HNC := Lib.hid hC
      have hae : a ≤ e := by omega
      have HPN := Lib.hid (parse_num ha HN.out HF.out HE.out hlt)
      obtain ⟨V, hV⟩ : ∃ V, dvl s fi e = V := ⟨_, rfl⟩
      have HV := Lib.hid hV
      have HG0 := Lib.hid (show ∀ V, dvl s fi e = V → numG s a = if 9007199254740991 < V then .no 6 a else .ok (leafV 2 (V : Int)) e by
        rintro V rfl
        unfold numG
        rw [HF.out, HE.out, HN.out, if_neg (fun q => by rcases q with q | q; exact hA q; exact absurd q.1 (by decide)), if_neg hC]
        rfl)
      have hchk : (((s.extract fi e)[0].toNat : Int) == 48) = false ∨ ((((s.extract fi e)[0].toNat : Int) == 48) = true ∧ (s.extract fi e).size ≤ 1) := by
        rw [hd0 hp0]
        by_cases q : (s.get! fi).toNat = 48
        · exact .inr ⟨by rw [q]; rfl, by have : ¬ fi + 1 < e := fun r => hC ⟨q, r⟩; omega⟩
        · exact .inl (by simp; omega)
      clear hA hC hds hd0 hV 
      generalize s.extract fi e = D at hD  hp0 hchk ⊢
      by_cases hL : 9007199254740991 < V
      · have HG : Hid (numG s a = .no 6 a) := Lib.hid (by rw [HG0.out V HV.out, if_pos hL])
        by_cases hF : V < 9223372036854775808
        · have HI : Hid (Lib.parseIntB 64 (s.extract a e).data.toList = .ok (V : Int)) := Lib.hid (by rw [HPN.out, HV.out]; simp only [Bool.false_eq_true, if_false]; exact if_pos hF)
          obtain ⟨v, hv⟩ : ∃ v : Int, v = (V : Int) := ⟨_, rfl⟩
          have hv2 : 9007199254740991 < v := by omega
          have hv3 : -9223372036854775808 ≤ v ∧ v ≤ 9223372036854775807 := by omega
          obtain ⟨hv4, hv5⟩ := hv3
          have KM : Hid (∀ x : BlwBy w5, Calls Tryd.prog 63 #[.string (s.extract a e), .int .i64 10, .int .i64 64] x.now fun e' w'' => e' = .returned (.tuple #[.int .i64 v, .nilIface]) ∧ ∃ q : BlwBy w5, w'' = q.now) := Lib.hid (fun x => Calls.below_of (int_ok (s.extract a e) v (by rw [hv]; exact HI.out) (by rw [ByteArray.size_extract]; omega) x.now))
          have C0 : ∀ x : BlwBy w5, x.now.cell? ⟨R, 0, none⟩ = some (.string s) := fun x => x.cell hR5 HP5.out.1.c0
          have C1 : ∀ x : BlwBy w5, x.now.cell? ⟨R, 1, none⟩ = some (.int .i64 e) := fun x => x.cell hR5 HP5.out.1.c1
          clear hv hL hF
          rcases hchk with d48 | ⟨d48, hsz⟩
          all_goals
            go_wp2_with fail
            refine wp_quiet_below (by kernel_rfl) (by kernel_rfl) ?_
            repeat (quiet_step (first | (go_at_call 63; exact KM.out _)))
            refine wpQuiet_nil ?_
            intro w9 hw'
            have hb9 : Below w5.heap.size w5 w9 := by obtain ⟨⟨wx, hbx⟩, hw''⟩ := hw'; rw [hw'']; exact hbx
            clear hw' KM C0 C1
            have H9 := Lib.hid (HP5.out.below hb9)
            clear hb9
            go_wp2_with fail
            refine (fail_first R s _ b a 6 w9 H9.out.1).mono ?_
            rintro e' wf ⟨rfl, hf⟩
            go_wp2_with fail
            go_ret
            exact ⟨0, rfl, .inr ⟨6, a, HG.out, e, hes, H9.out.trans hf⟩⟩
        · have HI : Hid (Lib.parseIntB 64 (s.extract a e).data.toList = .range) := Lib.hid (by rw [HPN.out, HV.out]; simp only [Bool.false_eq_true, if_false]; exact if_neg hF)
          obtain ⟨te, pe, hev⟩ := (HEV.out.rd HP5.out w5.drew ((Below.refl _ _).drew)).2
          have KM := Lib.hid (Tryd.strconv_ParseInt_10_at64_range (s.extract a e) (by rw [ByteArray.size_extract]; omega) HI.out _ w5.drew hev (.inr ⟨te, pe, rfl⟩))
          have HP6 := Lib.hid HP5.out.drew
          have c0 := HP5.out.1.c0
          have c1 := HP5.out.1.c1
          have HS0 := Lib.hid (show w5.drew.cell? ⟨R, 0, none⟩ = some (.string s) ∧ w5.drew.cell? ⟨R, 1, none⟩ = some (.int .i64 e) from ⟨HP6.out.1.c0, HP6.out.1.c1⟩)
          have HS1 := Lib.hid (show ∀ wF, Below w5.drew.heap.size w5.drew wF → wF.cell? ⟨R, 0, none⟩ = some (.string s) ∧ wF.cell? ⟨R, 1, none⟩ = some (.int .i64 e) from fun wF hb => ⟨(HP6.out.below hb).1.c0, (HP6.out.below hb).1.c1⟩)
          generalize Lib.intSat 64 (s.extract a e).data.toList = sat at KM
          clear hev hL hF
          rcases hchk with d48 | ⟨d48, hsz⟩
          all_goals
            go_wp2_with fail
            go_region_held3 (fun w' => w'.cell? ⟨R, 0, none⟩ = some (.string s) ∧ w'.cell? ⟨R, 1, none⟩ = some (.int .i64 e))
              (first
                | (have h7 := HS1.out _ hbF; with_reducible exact h7)
                | (have h7 := HS0.out; with_reducible exact h7)
                | fail)
              (first
                | (go_at_call 63; refine KM.out.mono ?_; rintro e' wF ⟨N, rfl, hN, hNc, hbF⟩)
                | fail)
          all_goals
            have H9 := Lib.hid (HP6.out.below hbF)
            clear hN hNc hbF
            go_wp2_with fail
            refine (fail_first R s _ b a 6 _ H9.out.1).mono ?_
            rintro e' wf ⟨rfl, hf⟩
            go_wp2_with fail
            go_ret
            exact ⟨0, rfl, .inr ⟨6, a, HG.out, e, hes, H9.out.trans hf⟩⟩
      · have HI : Hid (Lib.parseIntB 64 (s.extract a e).data.toList = .ok (V : Int)) := Lib.hid (by rw [HPN.out, HV.out]; simp only [Bool.false_eq_true, if_false]; exact if_pos (by omega))
        have HG : Hid (numG s a = .ok (leafV 2 (V : Int)) e) := Lib.hid (by rw [HG0.out V HV.out, if_neg hL])
        obtain ⟨v, hv⟩ : ∃ v : Int, v = (V : Int) := ⟨_, rfl⟩
        have hv1 : -9007199254740991 ≤ v := by omega
        have hv2 : v ≤ 9007199254740991 := by omega
        have KM : Hid (∀ x : BlwBy w5, Calls Tryd.prog 63 #[.string (s.extract a e), .int .i64 10, .int .i64 64] x.now fun e' w'' => e' = .returned (.tuple #[.int .i64 v, .nilIface]) ∧ ∃ q : BlwBy w5, w'' = q.now) := Lib.hid (fun x => Calls.below_of (int_ok (s.extract a e) v (by rw [hv]; exact HI.out) (by rw [ByteArray.size_extract]; omega) x.now))
        have C0 : ∀ x : BlwBy w5, x.now.cell? ⟨R, 0, none⟩ = some (.string s) := fun x => x.cell hR5 HP5.out.1.c0
        have C1 : ∀ x : BlwBy w5, x.now.cell? ⟨R, 1, none⟩ = some (.int .i64 e) := fun x => x.cell hR5 HP5.out.1.c1
        rw [← hv] at HG
        clear hv hL
        rcases hchk with d48 | ⟨d48, hsz⟩
        all_goals
          go_wp2_with fail
          refine wp_quiet_below (by kernel_rfl) (by kernel_rfl) ?_
          repeat (quiet_step (first | (go_at_call 63; exact KM.out _)))
          refine wpQuiet_nil ?_
          intro w9 hw'
          have hb9 : Below w5.heap.size w5 w9 := by obtain ⟨⟨wx, hbx⟩, hw''⟩ := hw'; rw [hw'']; exact hbx
          clear hw' KM C0 C1
          have H9 := Lib.hid (HP5.out.below hb9)
          clear hb9
          go_wp2_with fail
          go_ret
          exact ⟨v, rfl, .inl ⟨e, HG.out, H9.out⟩⟩
end Go.Proofs.YtbinmhcjadkmgaaDoor

/- cascade/json's reader: numbers, bx. -/
set_option linter.unusedVariables false
set_option linter.unusedSimpArgs false
namespace Go.Proofs.YtbinmhcjadkmgaaDoor
open Go.RowKit
set_option maxHeartbeats 40000000 in
set_option maxRecDepth 100000 in
theorem number_bx (R : Nat) (s : ByteArray) (a : Nat) (b : Int) (w : World) (h : Rdr w R s a 0 b) (ha : a ≤ s.size) (hs : s.size ≤ 1000000) (hE : EV R w) (hnb : neg1 s a = true) (hex : dgs s (fst1 s a) = s.size) : Calls Tryd.prog 46 #[.pointer (some ⟨R, 0, none⟩)] w fun e w' => NmR R s b (numG s a) w e w' := by
  have K1 := Lib.hid (takes_neg R s a 0 b w h ha hs)
  have HEV := Lib.hid hE
  have c1 := h.c1
  have hfin := fst1_in ha
  obtain ⟨fi, hfi⟩ : ∃ fi, fst1 s a = fi := ⟨_, rfl⟩
  rw [hfi] at hex
  obtain ⟨e, hee⟩ : ∃ e, dgs s fi = e := ⟨_, rfl⟩
  rw [hee] at hex
  have HEX := Lib.hid hex
  clear hex
  rw [hnb, hfi] at K1
  rw [hfi] at hfin
  obtain ⟨hfa, hfs⟩ := hfin
  have hge : fi ≤ e := by rw [← hee]; exact dgs_ge s fi
  have hes : e ≤ s.size := by rw [← hee]; exact dgs_le hfs
  have HN := Lib.hid hnb
  have HF := Lib.hid hfi
  have HE := Lib.hid hee
  clear h hE hnb hfi hee
  go_enter Tryd.func46, Tryd.ntmps46
  go_wp2_with fail
  refine K1.out.mono ?_
  rintro e' w1 ⟨rfl, h1⟩
  have H1 := Lib.hid h1
  have c1 := h1.1.c1
  clear h1 K1
  go_wp2_with fail
  go_loopw [] (fun wr => ∃ i : Nat, i ≤ e ∧ RdP R w s i 0 b wr ∧ dgs s i = e) (fun wr => s.size - rdAt R wr)
  case atStart => exact ⟨fi, hge, H1.out, HE.out⟩
  case round =>
    clear H1 c1
    obtain ⟨i, hi, hp, hdi⟩ := hrel
    have c0 := hp.1.c0
    have c1 := hp.1.c1
    have f1 := hp.1.fz 1
    have HP := Lib.hid hp
    have HDI := Lib.hid hdi
    clear hp hdi
    by_cases hie : i < e
    · have hlt : i < s.size := by omega
      have hgb := get_bang s i hlt
      have hdg : isDg (s[i]'hlt) = true := by
        cases hq : isDg (s[i]'hlt)
        · have := dgs_stop (s := s) (i := i) (fun x => by rw [hgb, hq] at x; cases x.2)
          have := HDI.out
          omega
        · rfl
      have HX := Lib.hid (dgs_step (s := s) hlt (by rw [hgb]; exact hdg))
      have KD : Hid (∀ n, Calls Tryd.prog 45 #[.int .u8 (s[i]'hlt).toNat] (wr.drewN n) fun e w' => e = .returned (.bool true) ∧ ∃ m, w' = wr.drewN m) := Lib.hid (fun n => (digit_any _ _).mono (by rintro e w' ⟨rfl, rfl⟩; exact ⟨by rw [hdg], n, rfl⟩))
      clear hgb hdg
      go_wp2_with fail
      go_quiet (first
        | (go_at_call 45; exact KD.out _)
        | fail)
      go_wp2_with fail
      have HQ := (HP.out.drewN nq).set1 (((i + 1 : Nat) : Int))
      rw [Int.natCast_add] at HQ
      refine ⟨⟨i + 1, by omega, by rw [Int.natCast_add]; exact HQ, by rw [HX.out, HDI.out]⟩, ?_⟩
      have e1 := HQ.1.rdAt (a := i + 1)
      have e2 := HP.out.1.rdAt
      rw [e2]
      have e3 : rdAt R ((wr.drewN nq).setCell ⟨R, 1, none⟩ (.int .i64 ((i : Int) + 1))) = i + 1 := e1
      rw [e3]
      omega
    · obtain rfl : e = i := by omega
      have hns : ¬ e < s.size := by have := HEX.out; omega
      go_wp2_with fail
      go_quiet (fail)
      have HP := Lib.hid (HP.out.drewN nq)
      generalize wr.drewN nq = wr at HP ⊢
      clear HDI c0 c1 f1
      have c0 := HP.out.1.c0
      have c1 := HP.out.1.c1
      go_wp2_with fail
      go_quiet (fail)
      have HP5 := Lib.hid (HP.out.drewN nq)
      generalize wr.drewN nq = w5 at HP5 ⊢
      clear HP
      have hR5 := HP5.out.1.lt
      by_cases hA : e = fi
      · have HG : Hid (numG s a = .no 4 a) := Lib.hid (by unfold numG; rw [HF.out, HE.out, if_pos (.inl hA)])
        have hD : (s.extract fi e).toList.isEmpty = true := is_empty (by rw [ext_size hes]; omega)
        clear hA
        generalize s.extract fi e = D at hD ⊢
        go_wp2_with fail
        refine (fail_first R s _ b a 4 w5 HP5.out.1).mono ?_
        rintro e' wf ⟨rfl, hf⟩
        go_wp2_with fail
        go_ret
        exact ⟨0, rfl, .inr ⟨4, a, HG.out, e, hes, HP5.out.trans hf⟩⟩
      have hlt : fi < e := by omega
      have hfs : fi < s.size := by omega
      have hD : (s.extract fi e).toList.isEmpty = false := ne_empty (by rw [ext_size hes]; omega)
      have hds := ext_size (s := s) (i := fi) hes
      have hd0 := ext_first (s := s) hlt hes
      have HD1 := Lib.hid (fun (h1 : e = fi + 1) (h2 : (s.get! fi).toNat = 48) => ext_1e (s := s) hes h1 h2)
      have HD2 := Lib.hid (fun (h : ¬ (e = fi + 1 ∧ (s.get! fi).toNat = 48)) => ext_not (s := s) hlt hes h)
      by_cases hB : e = fi + 1 ∧ (s.get! fi).toNat = 48
      · have HG : Hid (numG s a = .no 4 a) := Lib.hid (by unfold numG; rw [HF.out, HE.out, HN.out, if_pos (.inr ⟨rfl, hB.1, hB.2⟩)])
        have hD2 := bytes_eq (HD1.out hB.1 hB.2)
        rw [l48] at hD2
        clear hA hB HD1 HD2 hd0 hds
        generalize s.extract fi e = D at hD hD2 ⊢
        go_wp2_with fail
        refine (fail_first R s _ b a 4 w5 HP5.out.1).mono ?_
        rintro e' wf ⟨rfl, hf⟩
        go_wp2_with fail
        go_ret
        exact ⟨0, rfl, .inr ⟨4, a, HG.out, e, hes, HP5.out.trans hf⟩⟩
      have hD2 := bytes_ne (HD2.out hB)
      rw [l48] at hD2
      clear HD1 HD2
      have hp0 : 0 < (s.extract fi e).size := by omega
      by_cases hC : (s.get! fi).toNat = 48 ∧ fi + 1 < e
      · have HG : Hid (numG s a = .no 4 (fi + 1)) := Lib.hid (by unfold numG; rw [HF.out, HE.out, HN.out, if_neg (fun q => by rcases q with q | q; exact hA q; exact hB q.2), if_pos hC])
        have hsz : 1 < (s.extract fi e).size := by omega
        have d48 : (((s.extract fi e)[0].toNat : Int) == 48) = true := by rw [hd0 hp0, hC.1]; rfl
        have hfi1 : fi + 1 ≤ 2000000 := by omega
        clear hA hC hds hd0 hB
        generalize s.extract fi e = D at hD hD2 hp0 hsz d48 ⊢
        go_wp2_with fail
        refine (fail_first R s _ b ((fi : Int) + 1) 4 w5 HP5.out.1).mono ?_
        rintro e' wf ⟨rfl, hf⟩
        go_wp2_with fail
        go_ret
        exact ⟨0, rfl, .inr ⟨4, fi + 1, HG.out, e, hes, by rw [Int.natCast_add]; exact HP5.out.trans hf⟩⟩
      have HNC := Lib.hid hC
      have hae : a ≤ e := by omega
      have HPN := Lib.hid (parse_num ha HN.out HF.out HE.out hlt)
      obtain ⟨V, hV⟩ : ∃ V, dvl s fi e = V := ⟨_, rfl⟩
      have HV := Lib.hid hV
      have HG0 := Lib.hid (show ∀ V, dvl s fi e = V → numG s a = if 9007199254740991 < V then .no 6 a else .ok (leafV 2 (-(V : Int))) e by
        rintro V rfl
        unfold numG
        rw [HF.out, HE.out, HN.out, if_neg (fun q => by rcases q with q | q; exact hA q; exact hB q.2), if_neg hC]
        rfl)
      have hchk : (((s.extract fi e)[0].toNat : Int) == 48) = false ∨ ((((s.extract fi e)[0].toNat : Int) == 48) = true ∧ (s.extract fi e).size ≤ 1) := by
        rw [hd0 hp0]
        by_cases q : (s.get! fi).toNat = 48
        · exact .inr ⟨by rw [q]; rfl, by have : ¬ fi + 1 < e := fun r => hC ⟨q, r⟩; omega⟩
        · exact .inl (by simp; omega)
      clear hA hC hds hd0 hV hB
      generalize s.extract fi e = D at hD hD2 hp0 hchk ⊢
      by_cases hL : 9007199254740991 < V
      · have HG : Hid (numG s a = .no 6 a) := Lib.hid (by rw [HG0.out V HV.out, if_pos hL])
        by_cases hF : V ≤ 9223372036854775808
        · have HI : Hid (Lib.parseIntB 64 (s.extract a e).data.toList = .ok (-(V : Int))) := Lib.hid (by rw [HPN.out, HV.out]; simp only [if_true]; exact if_pos hF)
          obtain ⟨v, hv⟩ : ∃ v : Int, v = (-(V : Int)) := ⟨_, rfl⟩
          have hv2 : v < -9007199254740991 := by omega
          have hv3 : -9223372036854775808 ≤ v ∧ v ≤ 9223372036854775807 := by omega
          obtain ⟨hv4, hv5⟩ := hv3
          have KM : Hid (∀ x : BlwBy w5, Calls Tryd.prog 63 #[.string (s.extract a e), .int .i64 10, .int .i64 64] x.now fun e' w'' => e' = .returned (.tuple #[.int .i64 v, .nilIface]) ∧ ∃ q : BlwBy w5, w'' = q.now) := Lib.hid (fun x => Calls.below_of (int_ok (s.extract a e) v (by rw [hv]; exact HI.out) (by rw [ByteArray.size_extract]; omega) x.now))
          have C0 : ∀ x : BlwBy w5, x.now.cell? ⟨R, 0, none⟩ = some (.string s) := fun x => x.cell hR5 HP5.out.1.c0
          have C1 : ∀ x : BlwBy w5, x.now.cell? ⟨R, 1, none⟩ = some (.int .i64 e) := fun x => x.cell hR5 HP5.out.1.c1
          clear hv hL hF
          rcases hchk with d48 | ⟨d48, hsz⟩
          all_goals
            go_wp2_with fail
            refine wp_quiet_below (by kernel_rfl) (by kernel_rfl) ?_
            repeat (quiet_step (first | (go_at_call 63; exact KM.out _)))
            refine wpQuiet_nil ?_
            intro w9 hw'
            have hb9 : Below w5.heap.size w5 w9 := by obtain ⟨⟨wx, hbx⟩, hw''⟩ := hw'; rw [hw'']; exact hbx
            clear hw' KM C0 C1
            have H9 := Lib.hid (HP5.out.below hb9)
            clear hb9
            go_wp2_with fail
            refine (fail_first R s _ b a 6 w9 H9.out.1).mono ?_
            rintro e' wf ⟨rfl, hf⟩
            go_wp2_with fail
            go_ret
            exact ⟨0, rfl, .inr ⟨6, a, HG.out, e, hes, H9.out.trans hf⟩⟩
        · have HI : Hid (Lib.parseIntB 64 (s.extract a e).data.toList = .range) := Lib.hid (by rw [HPN.out, HV.out]; simp only [if_true]; exact if_neg hF)
          obtain ⟨te, pe, hev⟩ := (HEV.out.rd HP5.out w5.drew ((Below.refl _ _).drew)).2
          have KM := Lib.hid (Tryd.strconv_ParseInt_10_at64_range (s.extract a e) (by rw [ByteArray.size_extract]; omega) HI.out _ w5.drew hev (.inr ⟨te, pe, rfl⟩))
          have HP6 := Lib.hid HP5.out.drew
          have c0 := HP5.out.1.c0
          have c1 := HP5.out.1.c1
          have HS0 := Lib.hid (show w5.drew.cell? ⟨R, 0, none⟩ = some (.string s) ∧ w5.drew.cell? ⟨R, 1, none⟩ = some (.int .i64 e) from ⟨HP6.out.1.c0, HP6.out.1.c1⟩)
          have HS1 := Lib.hid (show ∀ wF, Below w5.drew.heap.size w5.drew wF → wF.cell? ⟨R, 0, none⟩ = some (.string s) ∧ wF.cell? ⟨R, 1, none⟩ = some (.int .i64 e) from fun wF hb => ⟨(HP6.out.below hb).1.c0, (HP6.out.below hb).1.c1⟩)
          generalize Lib.intSat 64 (s.extract a e).data.toList = sat at KM
          clear hev hL hF
          rcases hchk with d48 | ⟨d48, hsz⟩
          all_goals
            go_wp2_with fail
            go_region_held3 (fun w' => w'.cell? ⟨R, 0, none⟩ = some (.string s) ∧ w'.cell? ⟨R, 1, none⟩ = some (.int .i64 e))
              (first
                | (have h7 := HS1.out _ hbF; with_reducible exact h7)
                | (have h7 := HS0.out; with_reducible exact h7)
                | fail)
              (first
                | (go_at_call 63; refine KM.out.mono ?_; rintro e' wF ⟨N, rfl, hN, hNc, hbF⟩)
                | fail)
          all_goals
            have H9 := Lib.hid (HP6.out.below hbF)
            clear hN hNc hbF
            go_wp2_with fail
            refine (fail_first R s _ b a 6 _ H9.out.1).mono ?_
            rintro e' wf ⟨rfl, hf⟩
            go_wp2_with fail
            go_ret
            exact ⟨0, rfl, .inr ⟨6, a, HG.out, e, hes, H9.out.trans hf⟩⟩
      · have HI : Hid (Lib.parseIntB 64 (s.extract a e).data.toList = .ok (-(V : Int))) := Lib.hid (by rw [HPN.out, HV.out]; simp only [if_true]; exact if_pos (by omega))
        have HG : Hid (numG s a = .ok (leafV 2 (-(V : Int))) e) := Lib.hid (by rw [HG0.out V HV.out, if_neg hL])
        obtain ⟨v, hv⟩ : ∃ v : Int, v = (-(V : Int)) := ⟨_, rfl⟩
        have hv1 : -9007199254740991 ≤ v := by omega
        have hv2 : v ≤ 9007199254740991 := by omega
        have KM : Hid (∀ x : BlwBy w5, Calls Tryd.prog 63 #[.string (s.extract a e), .int .i64 10, .int .i64 64] x.now fun e' w'' => e' = .returned (.tuple #[.int .i64 v, .nilIface]) ∧ ∃ q : BlwBy w5, w'' = q.now) := Lib.hid (fun x => Calls.below_of (int_ok (s.extract a e) v (by rw [hv]; exact HI.out) (by rw [ByteArray.size_extract]; omega) x.now))
        have C0 : ∀ x : BlwBy w5, x.now.cell? ⟨R, 0, none⟩ = some (.string s) := fun x => x.cell hR5 HP5.out.1.c0
        have C1 : ∀ x : BlwBy w5, x.now.cell? ⟨R, 1, none⟩ = some (.int .i64 e) := fun x => x.cell hR5 HP5.out.1.c1
        rw [← hv] at HG
        clear hv hL
        rcases hchk with d48 | ⟨d48, hsz⟩
        all_goals
          go_wp2_with fail
          refine wp_quiet_below (by kernel_rfl) (by kernel_rfl) ?_
          repeat (quiet_step (first | (go_at_call 63; exact KM.out _)))
          refine wpQuiet_nil ?_
          intro w9 hw'
          have hb9 : Below w5.heap.size w5 w9 := by obtain ⟨⟨wx, hbx⟩, hw''⟩ := hw'; rw [hw'']; exact hbx
          clear hw' KM C0 C1
          have H9 := Lib.hid (HP5.out.below hb9)
          clear hb9
          go_wp2_with fail
          go_ret
          exact ⟨v, rfl, .inl ⟨e, HG.out, H9.out⟩⟩
end Go.Proofs.YtbinmhcjadkmgaaDoor

/- cascade/json's reader: numbers, by. -/
set_option linter.unusedVariables false
set_option linter.unusedSimpArgs false
namespace Go.Proofs.YtbinmhcjadkmgaaDoor
open Go.RowKit
set_option maxHeartbeats 40000000 in
set_option maxRecDepth 100000 in
theorem number_by (R : Nat) (s : ByteArray) (a : Nat) (b : Int) (w : World) (h : Rdr w R s a 0 b) (ha : a ≤ s.size) (hs : s.size ≤ 1000000) (hE : EV R w) (hnb : neg1 s a = true) (hex : dgs s (fst1 s a) < s.size) : Calls Tryd.prog 46 #[.pointer (some ⟨R, 0, none⟩)] w fun e w' => NmR R s b (numG s a) w e w' := by
  have K1 := Lib.hid (takes_neg R s a 0 b w h ha hs)
  have HEV := Lib.hid hE
  have c1 := h.c1
  have hfin := fst1_in ha
  obtain ⟨fi, hfi⟩ : ∃ fi, fst1 s a = fi := ⟨_, rfl⟩
  rw [hfi] at hex
  obtain ⟨e, hee⟩ : ∃ e, dgs s fi = e := ⟨_, rfl⟩
  rw [hee] at hex
  rw [hnb, hfi] at K1
  rw [hfi] at hfin
  obtain ⟨hfa, hfs⟩ := hfin
  have hge : fi ≤ e := by rw [← hee]; exact dgs_ge s fi
  have hes : e ≤ s.size := by rw [← hee]; exact dgs_le hfs
  have HN := Lib.hid hnb
  have HF := Lib.hid hfi
  have HE := Lib.hid hee
  clear h hE hnb hfi hee
  go_enter Tryd.func46, Tryd.ntmps46
  go_wp2_with fail
  refine K1.out.mono ?_
  rintro e' w1 ⟨rfl, h1⟩
  have H1 := Lib.hid h1
  have c1 := h1.1.c1
  clear h1 K1
  go_wp2_with fail
  go_loopw [] (fun wr => ∃ i : Nat, i ≤ e ∧ RdP R w s i 0 b wr ∧ dgs s i = e) (fun wr => s.size - rdAt R wr)
  case atStart => exact ⟨fi, hge, H1.out, HE.out⟩
  case round =>
    clear H1 c1
    obtain ⟨i, hi, hp, hdi⟩ := hrel
    have c0 := hp.1.c0
    have c1 := hp.1.c1
    have f1 := hp.1.fz 1
    have HP := Lib.hid hp
    have HDI := Lib.hid hdi
    clear hp hdi
    by_cases hie : i < e
    · have hlt : i < s.size := by omega
      have hgb := get_bang s i hlt
      have hdg : isDg (s[i]'hlt) = true := by
        cases hq : isDg (s[i]'hlt)
        · have := dgs_stop (s := s) (i := i) (fun x => by rw [hgb, hq] at x; cases x.2)
          have := HDI.out
          omega
        · rfl
      have HX := Lib.hid (dgs_step (s := s) hlt (by rw [hgb]; exact hdg))
      have KD : Hid (∀ n, Calls Tryd.prog 45 #[.int .u8 (s[i]'hlt).toNat] (wr.drewN n) fun e w' => e = .returned (.bool true) ∧ ∃ m, w' = wr.drewN m) := Lib.hid (fun n => (digit_any _ _).mono (by rintro e w' ⟨rfl, rfl⟩; exact ⟨by rw [hdg], n, rfl⟩))
      clear hgb hdg
      go_wp2_with fail
      go_quiet (first
        | (go_at_call 45; exact KD.out _)
        | fail)
      go_wp2_with fail
      have HQ := (HP.out.drewN nq).set1 (((i + 1 : Nat) : Int))
      rw [Int.natCast_add] at HQ
      refine ⟨⟨i + 1, by omega, by rw [Int.natCast_add]; exact HQ, by rw [HX.out, HDI.out]⟩, ?_⟩
      have e1 := HQ.1.rdAt (a := i + 1)
      have e2 := HP.out.1.rdAt
      rw [e2]
      have e3 : rdAt R ((wr.drewN nq).setCell ⟨R, 1, none⟩ (.int .i64 ((i : Int) + 1))) = i + 1 := e1
      rw [e3]
      omega
    · obtain rfl : e = i := by omega
      have hgb := get_bang s e hex
      have hdg : isDg (s[e]'hex) = false := by
        cases hq : isDg (s[e]'hex)
        · rfl
        · have h1 := dgs_step (s := s) hex (by rw [hgb]; exact hq)
          have h2 := dgs_ge s (e + 1)
          have h3 := HDI.out
          omega
      have KD : Hid (∀ n, Calls Tryd.prog 45 #[.int .u8 (s[e]'hex).toNat] (wr.drewN n) fun e w' => e = .returned (.bool false) ∧ ∃ m, w' = wr.drewN m) := Lib.hid (fun n => (digit_any _ _).mono (by rintro e w' ⟨rfl, rfl⟩; exact ⟨by rw [hdg], n, rfl⟩))
      clear hgb hdg
      go_wp2_with fail
      go_quiet (first
        | (go_at_call 45; exact KD.out _)
        | fail)
      have HP := Lib.hid (HP.out.drewN nq)
      generalize wr.drewN nq = wr at HP ⊢
      clear HDI c0 c1 f1
      have c0 := HP.out.1.c0
      have c1 := HP.out.1.c1
      go_wp2_with fail
      go_quiet (fail)
      have HP5 := Lib.hid (HP.out.drewN nq)
      generalize wr.drewN nq = w5 at HP5 ⊢
      clear HP
      have hR5 := HP5.out.1.lt
      by_cases hA : e = fi
      · have HG : Hid (numG s a = .no 4 a) := Lib.hid (by unfold numG; rw [HF.out, HE.out, if_pos (.inl hA)])
        have hD : (s.extract fi e).toList.isEmpty = true := is_empty (by rw [ext_size hes]; omega)
        clear hA
        generalize s.extract fi e = D at hD ⊢
        go_wp2_with fail
        refine (fail_first R s _ b a 4 w5 HP5.out.1).mono ?_
        rintro e' wf ⟨rfl, hf⟩
        go_wp2_with fail
        go_ret
        exact ⟨0, rfl, .inr ⟨4, a, HG.out, e, hes, HP5.out.trans hf⟩⟩
      have hlt : fi < e := by omega
      have hfs : fi < s.size := by omega
      have hD : (s.extract fi e).toList.isEmpty = false := ne_empty (by rw [ext_size hes]; omega)
      have hds := ext_size (s := s) (i := fi) hes
      have hd0 := ext_first (s := s) hlt hes
      have HD1 := Lib.hid (fun (h1 : e = fi + 1) (h2 : (s.get! fi).toNat = 48) => ext_1e (s := s) hes h1 h2)
      have HD2 := Lib.hid (fun (h : ¬ (e = fi + 1 ∧ (s.get! fi).toNat = 48)) => ext_not (s := s) hlt hes h)
      by_cases hB : e = fi + 1 ∧ (s.get! fi).toNat = 48
      · have HG : Hid (numG s a = .no 4 a) := Lib.hid (by unfold numG; rw [HF.out, HE.out, HN.out, if_pos (.inr ⟨rfl, hB.1, hB.2⟩)])
        have hD2 := bytes_eq (HD1.out hB.1 hB.2)
        rw [l48] at hD2
        clear hA hB HD1 HD2 hd0 hds
        generalize s.extract fi e = D at hD hD2 ⊢
        go_wp2_with fail
        refine (fail_first R s _ b a 4 w5 HP5.out.1).mono ?_
        rintro e' wf ⟨rfl, hf⟩
        go_wp2_with fail
        go_ret
        exact ⟨0, rfl, .inr ⟨4, a, HG.out, e, hes, HP5.out.trans hf⟩⟩
      have hD2 := bytes_ne (HD2.out hB)
      rw [l48] at hD2
      clear HD1 HD2
      have hp0 : 0 < (s.extract fi e).size := by omega
      by_cases hC : (s.get! fi).toNat = 48 ∧ fi + 1 < e
      · have HG : Hid (numG s a = .no 4 (fi + 1)) := Lib.hid (by unfold numG; rw [HF.out, HE.out, HN.out, if_neg (fun q => by rcases q with q | q; exact hA q; exact hB q.2), if_pos hC])
        have hsz : 1 < (s.extract fi e).size := by omega
        have d48 : (((s.extract fi e)[0].toNat : Int) == 48) = true := by rw [hd0 hp0, hC.1]; rfl
        have hfi1 : fi + 1 ≤ 2000000 := by omega
        clear hA hC hds hd0 hB
        generalize s.extract fi e = D at hD hD2 hp0 hsz d48 ⊢
        go_wp2_with fail
        refine (fail_first R s _ b ((fi : Int) + 1) 4 w5 HP5.out.1).mono ?_
        rintro e' wf ⟨rfl, hf⟩
        go_wp2_with fail
        go_ret
        exact ⟨0, rfl, .inr ⟨4, fi + 1, HG.out, e, hes, by rw [Int.natCast_add]; exact HP5.out.trans hf⟩⟩
      have HNC := Lib.hid hC
      have hae : a ≤ e := by omega
      have HPN := Lib.hid (parse_num ha HN.out HF.out HE.out hlt)
      obtain ⟨V, hV⟩ : ∃ V, dvl s fi e = V := ⟨_, rfl⟩
      have HV := Lib.hid hV
      have HG0 := Lib.hid (show ∀ V, dvl s fi e = V → numG s a = if 9007199254740991 < V then .no 6 a else .ok (leafV 2 (-(V : Int))) e by
        rintro V rfl
        unfold numG
        rw [HF.out, HE.out, HN.out, if_neg (fun q => by rcases q with q | q; exact hA q; exact hB q.2), if_neg hC]
        rfl)
      have hchk : (((s.extract fi e)[0].toNat : Int) == 48) = false ∨ ((((s.extract fi e)[0].toNat : Int) == 48) = true ∧ (s.extract fi e).size ≤ 1) := by
        rw [hd0 hp0]
        by_cases q : (s.get! fi).toNat = 48
        · exact .inr ⟨by rw [q]; rfl, by have : ¬ fi + 1 < e := fun r => hC ⟨q, r⟩; omega⟩
        · exact .inl (by simp; omega)
      clear hA hC hds hd0 hV hB
      generalize s.extract fi e = D at hD hD2 hp0 hchk ⊢
      by_cases hL : 9007199254740991 < V
      · have HG : Hid (numG s a = .no 6 a) := Lib.hid (by rw [HG0.out V HV.out, if_pos hL])
        by_cases hF : V ≤ 9223372036854775808
        · have HI : Hid (Lib.parseIntB 64 (s.extract a e).data.toList = .ok (-(V : Int))) := Lib.hid (by rw [HPN.out, HV.out]; simp only [if_true]; exact if_pos hF)
          obtain ⟨v, hv⟩ : ∃ v : Int, v = (-(V : Int)) := ⟨_, rfl⟩
          have hv2 : v < -9007199254740991 := by omega
          have hv3 : -9223372036854775808 ≤ v ∧ v ≤ 9223372036854775807 := by omega
          obtain ⟨hv4, hv5⟩ := hv3
          have KM : Hid (∀ x : BlwBy w5, Calls Tryd.prog 63 #[.string (s.extract a e), .int .i64 10, .int .i64 64] x.now fun e' w'' => e' = .returned (.tuple #[.int .i64 v, .nilIface]) ∧ ∃ q : BlwBy w5, w'' = q.now) := Lib.hid (fun x => Calls.below_of (int_ok (s.extract a e) v (by rw [hv]; exact HI.out) (by rw [ByteArray.size_extract]; omega) x.now))
          have C0 : ∀ x : BlwBy w5, x.now.cell? ⟨R, 0, none⟩ = some (.string s) := fun x => x.cell hR5 HP5.out.1.c0
          have C1 : ∀ x : BlwBy w5, x.now.cell? ⟨R, 1, none⟩ = some (.int .i64 e) := fun x => x.cell hR5 HP5.out.1.c1
          clear hv hL hF
          rcases hchk with d48 | ⟨d48, hsz⟩
          all_goals
            go_wp2_with fail
            refine wp_quiet_below (by kernel_rfl) (by kernel_rfl) ?_
            repeat (quiet_step (first | (go_at_call 63; exact KM.out _)))
            refine wpQuiet_nil ?_
            intro w9 hw'
            have hb9 : Below w5.heap.size w5 w9 := by obtain ⟨⟨wx, hbx⟩, hw''⟩ := hw'; rw [hw'']; exact hbx
            clear hw' KM C0 C1
            have H9 := Lib.hid (HP5.out.below hb9)
            clear hb9
            go_wp2_with fail
            refine (fail_first R s _ b a 6 w9 H9.out.1).mono ?_
            rintro e' wf ⟨rfl, hf⟩
            go_wp2_with fail
            go_ret
            exact ⟨0, rfl, .inr ⟨6, a, HG.out, e, hes, H9.out.trans hf⟩⟩
        · have HI : Hid (Lib.parseIntB 64 (s.extract a e).data.toList = .range) := Lib.hid (by rw [HPN.out, HV.out]; simp only [if_true]; exact if_neg hF)
          obtain ⟨te, pe, hev⟩ := (HEV.out.rd HP5.out w5.drew ((Below.refl _ _).drew)).2
          have KM := Lib.hid (Tryd.strconv_ParseInt_10_at64_range (s.extract a e) (by rw [ByteArray.size_extract]; omega) HI.out _ w5.drew hev (.inr ⟨te, pe, rfl⟩))
          have HP6 := Lib.hid HP5.out.drew
          have c0 := HP5.out.1.c0
          have c1 := HP5.out.1.c1
          have HS0 := Lib.hid (show w5.drew.cell? ⟨R, 0, none⟩ = some (.string s) ∧ w5.drew.cell? ⟨R, 1, none⟩ = some (.int .i64 e) from ⟨HP6.out.1.c0, HP6.out.1.c1⟩)
          have HS1 := Lib.hid (show ∀ wF, Below w5.drew.heap.size w5.drew wF → wF.cell? ⟨R, 0, none⟩ = some (.string s) ∧ wF.cell? ⟨R, 1, none⟩ = some (.int .i64 e) from fun wF hb => ⟨(HP6.out.below hb).1.c0, (HP6.out.below hb).1.c1⟩)
          generalize Lib.intSat 64 (s.extract a e).data.toList = sat at KM
          clear hev hL hF
          rcases hchk with d48 | ⟨d48, hsz⟩
          all_goals
            go_wp2_with fail
            go_region_held3 (fun w' => w'.cell? ⟨R, 0, none⟩ = some (.string s) ∧ w'.cell? ⟨R, 1, none⟩ = some (.int .i64 e))
              (first
                | (have h7 := HS1.out _ hbF; with_reducible exact h7)
                | (have h7 := HS0.out; with_reducible exact h7)
                | fail)
              (first
                | (go_at_call 63; refine KM.out.mono ?_; rintro e' wF ⟨N, rfl, hN, hNc, hbF⟩)
                | fail)
          all_goals
            have H9 := Lib.hid (HP6.out.below hbF)
            clear hN hNc hbF
            go_wp2_with fail
            refine (fail_first R s _ b a 6 _ H9.out.1).mono ?_
            rintro e' wf ⟨rfl, hf⟩
            go_wp2_with fail
            go_ret
            exact ⟨0, rfl, .inr ⟨6, a, HG.out, e, hes, H9.out.trans hf⟩⟩
      · have HI : Hid (Lib.parseIntB 64 (s.extract a e).data.toList = .ok (-(V : Int))) := Lib.hid (by rw [HPN.out, HV.out]; simp only [if_true]; exact if_pos (by omega))
        have HG : Hid (numG s a = .ok (leafV 2 (-(V : Int))) e) := Lib.hid (by rw [HG0.out V HV.out, if_neg hL])
        obtain ⟨v, hv⟩ : ∃ v : Int, v = (-(V : Int)) := ⟨_, rfl⟩
        have hv1 : -9007199254740991 ≤ v := by omega
        have hv2 : v ≤ 9007199254740991 := by omega
        have KM : Hid (∀ x : BlwBy w5, Calls Tryd.prog 63 #[.string (s.extract a e), .int .i64 10, .int .i64 64] x.now fun e' w'' => e' = .returned (.tuple #[.int .i64 v, .nilIface]) ∧ ∃ q : BlwBy w5, w'' = q.now) := Lib.hid (fun x => Calls.below_of (int_ok (s.extract a e) v (by rw [hv]; exact HI.out) (by rw [ByteArray.size_extract]; omega) x.now))
        have C0 : ∀ x : BlwBy w5, x.now.cell? ⟨R, 0, none⟩ = some (.string s) := fun x => x.cell hR5 HP5.out.1.c0
        have C1 : ∀ x : BlwBy w5, x.now.cell? ⟨R, 1, none⟩ = some (.int .i64 e) := fun x => x.cell hR5 HP5.out.1.c1
        rw [← hv] at HG
        clear hv hL
        rcases hchk with d48 | ⟨d48, hsz⟩
        all_goals
          go_wp2_with fail
          refine wp_quiet_below (by kernel_rfl) (by kernel_rfl) ?_
          repeat (quiet_step (first | (go_at_call 63; exact KM.out _)))
          refine wpQuiet_nil ?_
          intro w9 hw'
          have hb9 : Below w5.heap.size w5 w9 := by obtain ⟨⟨wx, hbx⟩, hw''⟩ := hw'; rw [hw'']; exact hbx
          clear hw' KM C0 C1
          have H9 := Lib.hid (HP5.out.below hb9)
          clear hb9
          go_wp2_with fail
          go_ret
          exact ⟨v, rfl, .inl ⟨e, HG.out, H9.out⟩⟩
end Go.Proofs.YtbinmhcjadkmgaaDoor

/- cascade/json's reader: numbers, all. -/
set_option linter.unusedVariables false
namespace Go.Proofs.YtbinmhcjadkmgaaDoor
open Go.RowKit
theorem number_any (R : Nat) (s : ByteArray) (a : Nat) (b : Int) (w : World) (h : Rdr w R s a 0 b) (ha : a ≤ s.size) (hs : s.size ≤ 1000000) (hE : EV R w) : Calls Tryd.prog 46 #[.pointer (some ⟨R, 0, none⟩)] w fun e w' => NmR R s b (numG s a) w e w' := by
  have h1 := dgs_le (fst1_in ha).2
  cases hn : neg1 s a
  · rcases Nat.lt_or_ge (dgs s (fst1 s a)) s.size with q | q
    · exact number_ay R s a b w h ha hs hE hn q
    · exact number_ax R s a b w h ha hs hE hn (by omega)
  · rcases Nat.lt_or_ge (dgs s (fst1 s a)) s.size with q | q
    · exact number_by R s a b w h ha hs hE hn q
    · exact number_bx R s a b w h ha hs hE hn (by omega)
end Go.Proofs.YtbinmhcjadkmgaaDoor
