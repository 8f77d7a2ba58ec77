/- The laws' start: awake, what the rows' arguments read as, and the world's shape kept for the laws' frame. -/
import Derived.Test.YtbpmjpbgdfjhiaaDoorBRawF
import Derived.ProofKit
import Derived.OpenShut
import Derived.ShutString
import Derived.ChangeOld
import Derived.SliceStrings
import Derived.HandedShaped
set_option linter.unusedVariables false
set_option linter.unusedSimpArgs false
namespace Go.Proofs.YtbpmjpbgdfjhiaaDoor
open Go.ChangeShapes Go.WideShapes Go.ChangeAt Go.RowKit
theorem cell_lt {w : World} {p : Addr} {v : Value} (h : w.cell? p = some v) : p.block < w.heap.size := by
  rcases Nat.lt_or_ge p.block w.heap.size with hl | hl
  · exact hl
  · unfold World.cell? at h
    rw [Array.getElem?_eq_none hl] at h
    cases h
def IsStrs (w : World) (a : Option Addr) (len : Nat) (ss : List ByteArray) : Prop := Rd w a len (ss.map Value.string) ∧ len ≤ maxLen ∧ ∀ x ∈ ss, x.size ≤ maxLen
theorem is_strs {H : Type} {enc : TypeId × Value → H} {W : World} {t e : TypeId} {a : Option Addr} {len cap : Nat} {d : DataW H} {ps : List MemPlace} (ht : Tryd.prog.underlying t = some (.slice e)) (he : Tryd.prog.underlying e = some .string) (hc : Tryd.prog.cellsOf e = 1)
    (h : DataW.Trod enc Tryd.prog W 0 (fun _ => true) true t (.slice a len cap) d ps) : ∃ ss, IsStrs W a len ss := by
  obtain ⟨fuel, hf⟩ := h
  rcases open_strings ht he hc hf with ⟨hcs, _⟩ | ⟨x, l, c, zs, hcs, _, hl, hm, hz, _, hcell, hwz⟩
  · simp [Value.cells] at hcs
    obtain ⟨rfl, rfl, rfl⟩ := hcs
    exact ⟨[], ⟨rfl, fun h => by omega⟩, Nat.zero_le _, fun z hz => by simp at hz⟩
  · simp [Value.cells] at hcs
    obtain ⟨rfl, rfl, rfl⟩ := hcs
    have hz' : zs.length = cap := by simpa using hz
    refine ⟨zs.take len, ⟨by simp; omega, fun hn => ⟨x, rfl, ?_, fun j u hu => ?_⟩⟩, by omega, fun z hz => hwz z (List.mem_of_mem_take hz)⟩
    · have := cell_lt (hcell 0 (by omega)); rwa [add_block] at this
    · rw [List.getElem?_map, Option.map_eq_some_iff] at hu
      obtain ⟨z, hz1, rfl⟩ := hu
      rw [List.getElem?_take] at hz1
      split at hz1
      · have hj : j < zs.length := by omega
        rw [hcell j hj, List.getD_eq_getElem?_getD, hz1]; rfl
      · cases hz1
/-- The frame of a law whose row lists variables, the world's shape kept. -/
theorem handed_shape {H : Type} {enc : TypeId × Value → H} {a : Assume} {C : Checked} {os : Os} {f : FuncId} {fn : Func} {s : ChangeSpec} {conds : List PathCond} {apart fresh handsOn again : Bool} {X : World → Array Value → Prop}
    (own : ownKnob C.prog.godebug = none) (started : os.Started) (noInit : C.prog.inits.idxOf? f = none) (hfn : C.prog.funcs[f]? = some fn)
    (witness : ∃ (w : World) (tape : Tape) (i : Input), w.os = os ∧ (w.forCall tape i).Shaped C.prog ∧ i.vars = [] ∧ Input.okWide C.prog (w.forCall tape i) .any w.heap.size f i ∧
      ((s.pre enc C.prog fn conds apart (w.forCall tape i).memory i.args ∧ X (w.forCall tape i).memory i.args) ∧ sizedMet enc C.prog fn (OpenSpec.ofChange s) apart (w.forCall tape i).memory i.args) ∧ a.holds C.prog (lone (Frame.enter C.prog f i.args .normal) [] (w.forCall tape i)))
    (contract : ∀ (W : World) (base : Nat) (args : Array Value) (ds gs : List (DataW H)) (before : List MemPlace),
      (∀ (j : Nat) t v, fn.params[j]? = some t → args[j]? = some v → Value.okWide C.prog W .any base t v) →
      DataW.Whole enc C.prog fn.params.toList s.vars apart W args.toList ds gs before → W.ShapedOpen C.prog →
      Calls C.prog f args W fun e W' => ∃ v, e = .returned v ∧ s.post enc C.prog fn apart fresh handsOn again W args v W') :
    ReturnsInHanded a C os f .any (fun w args => (s.pre enc C.prog fn conds apart w args ∧ X w args) ∧ sizedMet enc C.prog fn (OpenSpec.ofChange s) apart w args) (s.post enc C.prog fn apart fresh handsOn again) := by
  apply returnsInHanded_of_calls own started noInit witness
  intro w tape i _ shape _ ok pre _
  obtain ⟨⟨⟨ds, gs, before, whole, _⟩, _⟩, _⟩ := pre
  obtain ⟨_, _, _, fn2, hfn2, _, _, _, _, vals⟩ := ok
  obtain rfl : fn2 = fn := Option.some.inj (hfn2.symm.trans hfn)
  have whole2 := DataW.Whole.of_heap (w' := w.forCall tape i) (by rfl) whole
  exact (contract (w.forCall tape i) w.heap.size i.args ds gs before vals whole2 shape).mono fun e W' ⟨v, he, hp⟩ => by
    subst he
    exact ChangeSpec.post_blind hp
theorem maxl_of_shape {W : World} (h : W.ShapedOpen Tryd.prog) : MaxL W := Tryd.laysM145.s1_3 W h
set_option maxHeartbeats 400000 in
set_option maxRecDepth 100000 in
theorem awake_any (w : World) (hm : MaxL w) : Calls Tryd.prog 7 #[] w fun e w' => e = .returned (.bool true) ∧ Below w.heap.size w w' := by
  have hv := value_any ⟨#[10, 32, 32, 97]⟩ (by decide) w hm
  have hv2 : (⟨(valM (⟨#[10, 32, 32, 97]⟩ : ByteArray).data.toList).toArray⟩ : ByteArray) = ⟨#[97]⟩ := by decide +kernel
  rw [hv2] at hv
  have HV := Lib.hid hv
  clear hv hv2 hm
  have HI : Hid (ind (bts [⟨#[]⟩, ⟨#[32, 98]⟩]) = 1) := Lib.hid (by decide +kernel)
  have hlit := fun W : World => World.ownsRow_lit (base := W.heap.size) (e := 9) (size := 1) W #[Value.string ⟨#[]⟩, Value.string ⟨#[32, 98]⟩] 2 (Nat.le_refl _) (by unfold maxLen; omega) rfl
  have hrd := fun W : World => (own_row (L := [⟨#[]⟩, ⟨#[32, 98]⟩]) (hlit W) rfl).rd
  have HRD := Lib.hid hrd
  clear hlit hrd
  have hss : ∀ x ∈ [(⟨#[]⟩ : ByteArray), ⟨#[32, 98]⟩], x.size ≤ 4294967296 := by decide +kernel
  go_enter Tryd.func7, Tryd.ntmps7
  go_wp2_with (first | (go_at_call 10; refine HV.out.mono ?_; rintro e w1 ⟨rfl, hb1⟩) | (go_at_call 8; refine (indent_any _ 2 _ _ _ (by omega) (HRD.out _) hss).mono ?_; rintro e w2 ⟨rfl, hb2⟩; rw [HI.out]))
  go_ret
  exact ⟨rfl, Below_next hb1 ((((Below.refl _ _).alloc (Nat.le_refl _) _).trans (hb2.mono (by simp))))⟩
end Go.Proofs.YtbpmjpbgdfjhiaaDoor
