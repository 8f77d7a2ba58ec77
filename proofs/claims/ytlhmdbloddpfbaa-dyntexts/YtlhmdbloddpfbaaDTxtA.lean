/- dyn.Texts' deferred closure. -/
import Derived.Test.YtlhmdbloddpfbaaDOdd
import Derived.Tactics
import Derived.Tactics2
import Derived.Defers
import Derived.Recover
import Derived.LaidEql
set_option linter.unusedVariables false
set_option linter.unusedSimpArgs false
namespace Go.Proofs.Ytlhmdbloddpfbaa
open Go.RowKit
/-- What a failed assertion lays. -/
noncomputable def taO (d : Option TypeId) (a : TypeId) : Obj := .cells #[typeHandle Try.prog 20, (match d with | some t => typeHandle Try.prog t | none => .pointer none), typeHandle Try.prog a, strVal ""] 164
@[go_sem] theorem tb_4_L (v : Value) (w : World) : (Instr.typeAssert (.iface 4 v) 20 85 false).run Try.prog w = .halt (.panic (.iface 15 (.pointer (some ⟨w.heap.size, 0, none⟩)))) (w.alloc (taO (some 4) 85)) := by kernel_rfl
@[go_sem] theorem tb_2_L (v : Value) (w : World) : (Instr.typeAssert (.iface 2 v) 20 85 false).run Try.prog w = .halt (.panic (.iface 15 (.pointer (some ⟨w.heap.size, 0, none⟩)))) (w.alloc (taO (some 2) 85)) := by kernel_rfl
@[go_sem] theorem tb_9_L (v : Value) (w : World) : (Instr.typeAssert (.iface 9 v) 20 85 false).run Try.prog w = .halt (.panic (.iface 15 (.pointer (some ⟨w.heap.size, 0, none⟩)))) (w.alloc (taO (some 9) 85)) := by kernel_rfl
@[go_sem] theorem tb_3_L (v : Value) (w : World) : (Instr.typeAssert (.iface 3 v) 20 85 false).run Try.prog w = .halt (.panic (.iface 15 (.pointer (some ⟨w.heap.size, 0, none⟩)))) (w.alloc (taO (some 3) 85)) := by kernel_rfl
@[go_sem] theorem tb_L_L (v : Value) (w : World) : (Instr.typeAssert (.iface 85 v) 20 85 false).run Try.prog w = .ok v w := by kernel_rfl
@[go_sem] theorem tb_O_L (v : Value) (w : World) : (Instr.typeAssert (.iface 87 v) 20 85 false).run Try.prog w = .halt (.panic (.iface 15 (.pointer (some ⟨w.heap.size, 0, none⟩)))) (w.alloc (taO (some 87) 85)) := by kernel_rfl
@[go_sem] theorem tb_Fl_L (v : Value) (w : World) : (Instr.typeAssert (.iface 116 v) 20 85 false).run Try.prog w = .halt (.panic (.iface 15 (.pointer (some ⟨w.heap.size, 0, none⟩)))) (w.alloc (taO (some 116) 85)) := by kernel_rfl
@[go_sem] theorem tb_n_L (w : World) : (Instr.typeAssert .nilIface 20 85 false).run Try.prog w = .halt (.panic (.iface 15 (.pointer (some ⟨w.heap.size, 0, none⟩)))) (w.alloc (taO none 85)) := by kernel_rfl
@[go_sem] theorem tb_4_9 (v : Value) (w : World) : (Instr.typeAssert (.iface 4 v) 20 9 false).run Try.prog w = .halt (.panic (.iface 15 (.pointer (some ⟨w.heap.size, 0, none⟩)))) (w.alloc (taO (some 4) 9)) := by kernel_rfl
@[go_sem] theorem tb_2_9 (v : Value) (w : World) : (Instr.typeAssert (.iface 2 v) 20 9 false).run Try.prog w = .halt (.panic (.iface 15 (.pointer (some ⟨w.heap.size, 0, none⟩)))) (w.alloc (taO (some 2) 9)) := by kernel_rfl
@[go_sem] theorem tb_9_9 (v : Value) (w : World) : (Instr.typeAssert (.iface 9 v) 20 9 false).run Try.prog w = .ok v w := by kernel_rfl
@[go_sem] theorem tb_3_9 (v : Value) (w : World) : (Instr.typeAssert (.iface 3 v) 20 9 false).run Try.prog w = .halt (.panic (.iface 15 (.pointer (some ⟨w.heap.size, 0, none⟩)))) (w.alloc (taO (some 3) 9)) := by kernel_rfl
@[go_sem] theorem tb_L_9 (v : Value) (w : World) : (Instr.typeAssert (.iface 85 v) 20 9 false).run Try.prog w = .halt (.panic (.iface 15 (.pointer (some ⟨w.heap.size, 0, none⟩)))) (w.alloc (taO (some 85) 9)) := by kernel_rfl
@[go_sem] theorem tb_O_9 (v : Value) (w : World) : (Instr.typeAssert (.iface 87 v) 20 9 false).run Try.prog w = .halt (.panic (.iface 15 (.pointer (some ⟨w.heap.size, 0, none⟩)))) (w.alloc (taO (some 87) 9)) := by kernel_rfl
@[go_sem] theorem tb_Fl_9 (v : Value) (w : World) : (Instr.typeAssert (.iface 116 v) 20 9 false).run Try.prog w = .halt (.panic (.iface 15 (.pointer (some ⟨w.heap.size, 0, none⟩)))) (w.alloc (taO (some 116) 9)) := by kernel_rfl
@[go_sem] theorem tb_n_9 (w : World) : (Instr.typeAssert .nilIface 20 9 false).run Try.prog w = .halt (.panic (.iface 15 (.pointer (some ⟨w.heap.size, 0, none⟩)))) (w.alloc (taO none 9)) := by kernel_rfl
@[go_sem] theorem ta_err (v : Value) (w : World) : (Instr.typeAssert (.iface 15 v) 20 38 true).run Try.prog w = .ok (.tuple #[.int .i64 0, .bool false]) w := by kernel_rfl
theorem told_no (v : Value) (w : World) : Calls Try.prog 79 #[.iface 15 v] w fun e w' => e = .returned (.int .i64 1) ∧ w' = w := by
  go_enter Try.func79, Try.ntmps79
  go_wp2
  go_ret
  exact ⟨rfl, rfl⟩
@[go_sem] theorem neq_nil_nil (w : World) : (binOp .neq 20 .nilIface .nilIface).run Try.prog w = .ok (.bool false) w := by kernel_rfl
@[go_sem] theorem neq_15_nil (v : Value) (w : World) : (binOp .neq 20 (.iface 15 v) .nilIface).run Try.prog w = .ok (.bool true) w := by kernel_rfl
theorem catch_idle (p q : Addr) (w : World) : CallsD Try.prog 78 #[.pointer (some p), .pointer (some q)] .returning w fun e u' w' => e = .returned (.tuple #[]) ∧ u' = .returning ∧ w' = w := by
  refine callsD_of_wpS Try.func78 rfl fun c₀ cs hu => ?_
  apply wpS_seq
  apply wpS_region
  simp [wpOpsS, go_sem, recoverD, hu, Try.ntmps78, Exit.thenS]
  apply wpS_seq
  apply wpS_region
  simp [wpOpsS, go_sem, Exit.thenS]
  refine wpS_cond (t := false) (by simp [Act.eval, Array.replicate]) ?_
  simp only [Bool.false_eq_true, if_false]
  refine wpS_of_wp (wp_skip ?_)
  cases c₀
  simp_all [bodyPostS, results, Try.results78]
theorem catch_panics (T E : Nat) (v x y : Value) (older : List PanicEntry) (w : World) (hp : w.cell? ⟨T, 0, none⟩ = some x) (hpf : w.frozen? ⟨T, 0, none⟩ = false) (hq : w.cell? ⟨E, 0, none⟩ = some y) (hqf : w.frozen? ⟨E, 0, none⟩ = false) (hne : E ≠ T) (hne' : T ≠ E) :
    CallsD Try.prog 78 #[.pointer (some ⟨T, 0, none⟩), .pointer (some ⟨E, 0, none⟩)] (.panicking ({ v := .iface 15 v, recovered := false } :: older)) w fun e u' w' => e = .returned (.tuple #[]) ∧ u' = .panicking ({ v := .iface 15 v, recovered := true } :: older) ∧ w' = (w.setCell ⟨T, 0, none⟩ (.slice none 0 0)).setCell ⟨E, 0, none⟩ (.int .i64 1) := by
  refine callsD_of_wpS Try.func78 rfl fun c₀ cs hu => ?_
  apply wpS_seq
  apply wpS_region
  simp [wpOpsS, go_sem, recoverD, hu, Try.ntmps78, Exit.thenS]
  apply wpS_seq
  apply wpS_region
  simp [wpOpsS, go_sem, Exit.thenS]
  refine wpS_cond (t := true) (by simp [Act.eval, Array.replicate]) ?_
  simp only [if_true]
  refine wpS_of_wp ?_
  go_wp2_with (go_at_call 79; refine (told_no _ _).mono ?_; rintro e w' ⟨rfl, rfl⟩)
  simp [bodyPostS, results, Try.results78]
/-- An assertion that fails, whatever the world. -/
def Bad (x : Value) (a : TypeId) : Prop := ∃ o, ∀ W : World, (Instr.typeAssert x 20 a false).run Try.prog W = .halt (.panic (.iface 15 (.pointer (some ⟨W.heap.size, 0, none⟩)))) (W.alloc o)
/-- A text. -/
def Va.isS : Va → Prop
  | .mk k _ _ _ _ _ => k = 3
def Va.str : Va → ByteArray
  | .mk _ _ s _ _ _ => s
/-- Texts alone. -/
def Va.TxtOk : Va → Prop
  | .mk k _ _ l _ _ => k = 11 ∨ (k = 4 ∧ ∀ x ∈ l, x.isS)
def Va.txts : Va → List ByteArray
  | .mk k _ _ l _ _ => if k = 4 then l.map Va.str else []
theorem Ls.badS {w : World} {S : Nat → Prop} {a : Va} {x : Value} (h : Ls w S a x) (hn : ¬ a.isS) : Bad x 9 := by
  cases h with
  | bool h => exact ⟨_, fun W => tb_4_9 _ W⟩
  | int => exact ⟨_, fun W => tb_2_9 _ W⟩
  | str => exact absurd rfl hn
  | list xs hn hg hs0 row el => exact ⟨_, fun W => tb_L_9 _ W⟩
  | obj xs hn hg hs0 key row el => exact ⟨_, fun W => tb_O_9 _ W⟩
  | oint => exact ⟨_, fun W => tb_3_9 _ W⟩
  | flt v => exact ⟨_, fun W => tb_Fl_9 _ W⟩
  | lnil => exact ⟨_, fun W => tb_L_9 _ W⟩
  | onil => exact ⟨_, fun W => tb_O_9 _ W⟩
  | none h => exact ⟨_, fun W => tb_n_9 W⟩
theorem Ls.isStr {w : World} {S : Nat → Prop} {a : Va} {x : Value} (h : Ls w S a x) (hs : a.isS) : x = .iface 9 (.string a.str) := by
  cases h with
  | str => rfl
  | none h => exact absurd hs h.2.2.1
  | _ => cases hs
theorem deep_not {a : Va} (h : a.Deep) : ¬ a.TxtOk := by
  obtain ⟨k, n, s, l, ks, f⟩ := a
  obtain ⟨i, c, hc, hk⟩ := h
  simp only [Va.kids] at hc
  intro hok
  rcases hok with rfl | ⟨rfl, hall⟩
  · simp at hc
  · simp at hc
    have := hall c (List.mem_of_getElem? hc)
    obtain ⟨k', n', s', l', ks', f'⟩ := c
    cases this
    exact hk (by simp [Va.kids])
/-- What is read of a list of texts. -/
def RdS (w : World) (A : Option Addr) (ss : List ByteArray) : Prop := ∀ (i : Nat) s, ss[i]? = some s → ∃ ad, A = some ad ∧ ad.block < w.heap.size ∧ w.cell? (ad.add i) = some (.string s)
/-- What Texts answers. -/
def TxtR (a : Va) (w : World) (e : Ending) (w' : World) : Prop := ((∃ A c, e = .returned (.tuple #[.slice A a.txts.length c, .int .i64 0]) ∧ a.TxtOk ∧ RdS w' A a.txts) ∨ (e = .returned (.tuple #[.slice none 0 0, .int .i64 1]) ∧ ¬ a.TxtOk)) ∧ Below w.heap.size w w'
set_option maxHeartbeats 1000000 in
set_option maxRecDepth 100000 in
theorem txt_bad (a : Va) (x : Value) (w : World) (hb : Bad x 85) (hn : ¬ a.TxtOk) : Calls Try.prog 45 #[x] w fun e w' => TxtR a w e w' := by
  obtain ⟨o, hb⟩ := hb
  have HN := Lib.hid hn
  clear hn
  have hmf : ∀ (fn : Fn) (first cap : Array Value) (w : World), (Instr.makeFunc fn first cap).run Try.prog w = .ok (.func fn first cap) w := fun _ _ _ _ => rfl
  go_enter_defers Try.func45, Try.ntmps45
  go_wp2
  refine leaves_cons (f := 78) (args := #[.pointer (some ⟨w.heap.size, 0, none⟩), .pointer (some ⟨w.heap.size + 1, 0, none⟩)]) (by simp) (by simp [go_sem]) ?_
  refine (catch_panics w.heap.size (w.heap.size + 1) _ (.slice none 0 0) (.int .i64 0) [] _ ?_ ?_ ?_ ?_ (by omega) (by omega)).mono ?_
  · simp [go_sem]
  · simp [go_sem]
  · simp [go_sem]
  · simp [go_sem]
  rintro e u' w'' ⟨rfl, rfl, rfl⟩
  simp [Leaves, settle, results, Try.results45, go_sem]
  exact ⟨.inr ⟨rfl, HN.out⟩, (((Below.refl _ _).alloc (Nat.le_refl _) _).alloc (by simp) _).alloc (by simp; omega) _⟩
end Go.Proofs.Ytlhmdbloddpfbaa
