/- cascade/json's put, walked: what it puts is the value's JSON. -/
import Derived.Test.YtbinmhcjadkmgaaDoorJPlain
import Derived.Test.YtbinmhcjadkmgaaDoorQAwake
import Derived.Test.YtbinmhcjadkmgaaDoorTProgR
set_option linter.unusedVariables false
set_option linter.unusedSimpArgs false
namespace Go.Proofs.YtbinmhcjadkmgaaDoor
open Go.RowKit
/-! ### the tables -/
theorem gPow : Tryd.prog.globalNamed "internal/strconv.uint64pow10" = some 0 := by kernel_rfl
/-- The tables that are read: one cell of one, and the powers of ten. -/
def Tabs (w : World) : Prop := Tab16 w ∧ Lib.TabIs Tryd.prog w "internal/strconv.uint64pow10" .u64 Lib.pow10Tab
def TabsB (B : Nat) (w : World) : Prop := TabB B w ∧ Lib.TabIs Tryd.prog w "internal/strconv.uint64pow10" .u64 Lib.pow10Tab ∧ 0 < B
theorem pow_lt {w : World} (h : Lib.TabIs Tryd.prog w "internal/strconv.uint64pow10" .u64 Lib.pow10Tab) : 0 < w.heap.size := by
  unfold Lib.TabIs World.var? at h
  rw [gPow] at h
  simp only [Option.bind_some] at h
  rcases Nat.lt_or_ge 0 w.heap.size with h' | h'
  · exact h'
  · rw [Array.getElem?_eq_none h'] at h; cases h
theorem pow_go {B : Nat} {w w' : World} (h : Lib.TabIs Tryd.prog w "internal/strconv.uint64pow10" .u64 Lib.pow10Tab) (hB : 0 < B) (hb : Below B w w') : Lib.TabIs Tryd.prog w' "internal/strconv.uint64pow10" .u64 Lib.pow10Tab := by
  unfold Lib.TabIs World.var? at h ⊢
  rw [gPow] at h ⊢
  simp only [Option.bind_some] at h ⊢
  rw [hb.block 0 hB]
  exact h
theorem TabsB.go {B : Nat} {w w' : World} (h : TabsB B w) (hb : Below B w w') : TabsB B w' := ⟨h.1.go hb, pow_go h.2.1 h.2.2 hb, h.2.2⟩
theorem tabsB_of {w : World} (h : Tabs w) : TabsB w.heap.size w := ⟨tabB_of h.1, h.2, pow_lt h.2⟩
theorem TabsB.tabs {B : Nat} {w : World} (h : TabsB B w) : Tabs w := ⟨h.1.1, h.2.1⟩
theorem TabsB.grow {B B' : Nat} {w : World} (h : TabsB B w) (hB : B ≤ B') : TabsB B' w := ⟨h.1.grow hB, h.2.1, Nat.lt_of_lt_of_le h.2.2 hB⟩
theorem Tabs.go {w w' : World} (h : Tabs w) (hb : Below w.heap.size w w') : Tabs w' := ((tabsB_of h).go hb).tabs
/-! ### what a writer keeps -/
theorem below_grown (w : World) (k : Nat) (os : Array Obj) : Below w.heap.size w (Sort.grow (w.drewN k) os) := by
  refine ⟨rfl, rfl, rfl, by simp, fun j hj => ?_⟩
  show ((w.drewN k).heap ++ os)[j]? = _
  rw [Array.getElem?_append_left (by simpa using hj)]
  rfl
theorem builder_lt {T e : TypeId} {B b : Nat} {bs : List Value} {w : World} (h : Lib.IsBuilder T e B b bs w) : b < w.heap.size := h.elim (fun x => x.lt) (fun x => x.lt)
theorem builder_eq {B b : Nat} {o o' : List UInt8} {w : World} (e : o = o') (h : Lib.IsBuilder 42 5 B b (Lib.byteCells o) w) : Lib.IsBuilder 42 5 B b (Lib.byteCells o') w := e ▸ h
theorem Lies.fr {B : Nat} {w w' : World} {S : Nat → Prop} {a : Va} {h : Hd} (H : Lies w S a h) (hb : Below B w w') (hS : ∀ b, S b → b < B) : Lies w' S a h :=
  Lies.keep (fun p h1 _ => hb.cell (hS _ h1)) (fun _ h _ => h) a h H
theorem heap_new (w : World) (o : Obj) : (w.alloc o).heap[w.heap.size]? = some o := heap_alloc_new w o
theorem fr_box {B b : Nat} {w w' : World} {h : Hd} (hf : Fr B b (w.alloc (Obj.cells #[.int .i64 h.k, .int .i64 h.n, .string h.s, .slice h.A h.la h.lc, .slice h.F h.lf h.fc] 25)) w') (hb : b < w.heap.size) : Bx w' w.heap.size h := by
  have h1 := hf.2 w.heap.size _ (heap_new w _) (fun e => by have : w.heap.size = b := by simpa using e
                                                            omega) (fun c fz e => by cases e)
  refine ⟨(Array.getElem?_eq_some_iff.1 h1).1, fun j c hc => ?_⟩
  rw [Lib.cell_of_heap h1]
  simpa [Hd.cells] using hc
theorem fr_box6 {B b : Nat} {w w' : World} {key : ByteArray} {h : Hd} (hf : Fr B b (w.alloc (Obj.cells #[.string key, .int .i64 h.k, .int .i64 h.n, .string h.s, .slice h.A h.la h.lc, .slice h.F h.lf h.fc] 48)) w') (hb : b < w.heap.size) : At6 w' ⟨w.heap.size, 0, none⟩ key h := by
  have h1 := hf.2 w.heap.size _ (heap_new w _) (fun e => by have : w.heap.size = b := by simpa using e
                                                            omega) (fun c fz e => by cases e)
  have hc : ∀ (j : Nat) c, (pcells (key, h))[j]? = some c → w'.cell? ⟨w.heap.size, j, none⟩ = some c := fun j c hc => by
    rw [Lib.cell_of_heap h1]
    simpa [pcells, Hd.cells] using hc
  exact ⟨hc 0 _ rfl, hc 1 _ rfl, hc 2 _ rfl, hc 3 _ rfl, hc 4 _ rfl, hc 5 _ rfl⟩
/-! ### putQuoted, putComma -/
theorem quoteB_le (s : ByteArray) (hs : s.size ≤ 500) : (quoteB s).size ≤ 3002 := by
  have := qL_len s
  have e : (quoteB s).size = (qL s.data.toList).length := by simp [quoteB, ByteArray.size]
  omega
set_option maxRecDepth 100000 in
theorem put_quoted (B b : Nat) (o : List UInt8) (s : ByteArray) (w : World) (hs : s.size ≤ 500) (hr : rightB s = true) (hT : TabsB B w) (h : Lib.IsBuilder 42 5 B b (Lib.byteCells o) w) (hlen : o.length ≤ 4294900000) (hBw : B ≤ w.heap.size) :
    Calls Tryd.prog 27 #[.pointer (some ⟨b, 0, none⟩), .string s] w fun e w' => e = .returned (.tuple #[]) ∧ Lib.IsBuilder 42 5 B b (Lib.byteCells (o ++ qL s.data.toList)) w' ∧ Fr B b w w' := by
  have K := Lib.hid (quote_yes s (by omega) hr w hT.1.1)
  have HQ := Lib.hid (quoteB_le s hs)
  have HE : Hid ((quoteB s).data.toList = qL s.data.toList) := by
    have : (quoteB s).data.toList = qL s.data.toList := by simp [quoteB]
    exact this
  generalize quoteB s = q at K HQ HE
  have HH := Lib.hid h
  clear hT hr h
  go_enter Tryd.func27, Tryd.ntmps27
  go_wp2_with fail
  refine K.out.mono ?_
  rintro e w1 ⟨rfl, hb1⟩
  have H1 := Lib.hid (builder_below HH.out hb1)
  have F1 := Lib.hid (Fr.below (b := b) hb1 hBw)
  clear hb1 K HH
  go_wp2_with fail
  refine (write_string B b o q _ H1.out (by omega) (by have := HQ.out; omega) (by have := F1.out.1.size; omega)).mono ?_
  rintro e w2 ⟨rfl, h2, f2⟩
  go_wp2_with fail
  go_end0
  exact ⟨rfl, builder_eq (by rw [HE.out]) h2, F1.out.trans f2⟩
set_option maxRecDepth 100000 in
theorem put_comma (B b : Nat) (o : List UInt8) (i : Nat) (w : World) (h : Lib.IsBuilder 42 5 B b (Lib.byteCells o) w) (hlen : o.length ≤ 4294900000) (hBw : B ≤ w.heap.size) :
    Calls Tryd.prog 29 #[.pointer (some ⟨b, 0, none⟩), .int .i64 i] w fun e w' => e = .returned (.tuple #[]) ∧ Lib.IsBuilder 42 5 B b (Lib.byteCells (o ++ cm i)) w' ∧ Fr B b w w' := by
  have HH := Lib.hid h
  clear h
  by_cases hi : 0 < i
  · have HC : Hid (o ++ [UInt8.ofNat 44] = o ++ cm i) := by
      have : o ++ [UInt8.ofNat 44] = o ++ cm i := by unfold cm; rw [if_pos hi]; rfl
      exact this
    go_enter Tryd.func29, Tryd.ntmps29
    go_wp2_with fail
    refine (write_byte B b o 44 (by decide) _ HH.out (by omega) hBw).mono ?_
    rintro e w2 ⟨rfl, h2, f2⟩
    go_wp2_with fail
    go_end0
    exact ⟨rfl, builder_eq HC.out h2, f2⟩
  · have HC : Hid (o = o ++ cm i) := by
      have : o = o ++ cm i := by unfold cm; rw [if_neg hi]; simp
      exact this
    go_enter Tryd.func29, Tryd.ntmps29
    go_wp2_with fail
    go_end0
    exact ⟨rfl, builder_eq HC.out HH.out, Fr.refl _ _ _⟩
end Go.Proofs.YtbinmhcjadkmgaaDoor
