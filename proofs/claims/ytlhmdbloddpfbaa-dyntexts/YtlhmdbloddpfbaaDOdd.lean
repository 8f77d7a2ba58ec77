/- dyn.Odd, walked. -/
import Derived.Test.YtlhmdbloddpfbaaDBldW
set_option linter.unusedVariables false
set_option linter.unusedSimpArgs false
namespace Go.Proofs.Ytlhmdbloddpfbaa
open Go.RowKit
/-- What Odd answers. -/
def OddX (a : Va) (w : World) (e : Ending) (w' : World) : Prop := ∃ x, e = .returned x ∧ (Ls w' (fun b => w.heap.size ≤ b) a x ∨ (x = .nilIface ∧ a.Deep)) ∧ Below w.heap.size w w'
theorem stp_fwd {w w' : World} {a c : Va} {h u : Hd} {p : Addr} (hb : Below w.heap.size w w') (s : Stp w' a h c p u) {S : Nat → Prop} (H : Lies w S a h) : Stp w a h c p u ∧ Lies w S c u ∧ p.block < w.heap.size := by
  cases s with
  | L hx hA hu =>
    obtain ⟨ad, v, e, _, hbl, hL, h5⟩ := H.op.L _ _ hx
    cases hA.symm.trans e
    cases at5_one hu (h5.below hb hbl)
    exact ⟨.L hx hA h5, hL, hbl⟩
  | K hx hF hu =>
    obtain ⟨ad, v, key, e, _, hbl, _, _, hL, h6⟩ := H.op.K _ _ hx
    cases hF.symm.trans e
    cases (at6_one hu (h6.below hb hbl)).2
    exact ⟨.K hx hF h6, hL, hbl⟩
theorem un_go {w w' : World} (hb : Below w.heap.size w w') : ∀ {a c : Va} {h u : Hd} {p : Addr}, Rch w' a h c p u → ∀ {S : Nat → Prop}, Lies w S a h → Rch w a h c p u ∧ p.block < w.heap.size := by
  intro a c h u p r
  induction r with
  | one s =>
    intro S H
    have := stp_fwd hb s H
    exact ⟨.one this.1, this.2.2⟩
  | cons s r ih =>
    intro S H
    have h1 := stp_fwd hb s H
    have h2 := ih h1.2.1
    exact ⟨.cons h1.1 h2.1, h2.2⟩
theorem Un.go {w w' : World} {a : Va} {h : Hd} {S : Nat → Prop} (H : Un w a h) (hl : Lies w S a h) (hb : Below w.heap.size w w') : Un w' a h := fun c p u r => by
  have := un_go hb r hl
  exact (hb.frozen this.2).trans (H c p u this.1)
set_option maxHeartbeats 1000000 in
set_option maxRecDepth 100000 in
theorem odd_any (a : Va) (h : Hd) (w : World) (H : Lies w (fun b => b < w.heap.size) a h) (hun : Un w a h) (hsh : a.Sh) (hcn : a.cnt ≤ 60) : Calls Try.prog 39 #[h.val] w fun e w' => OddX a w e w' := by
  have hb : Below w.heap.size w (w.alloc (Obj.cells #[.int .i64 h.k, .int .i64 h.n, .string h.s, .slice h.A h.la h.lc, .slice h.F h.lf h.fc] 25)) := (Below.refl _ _).alloc (Nat.le_refl _) _
  have hbx := Bx.start w h 25
  have h5 : At5 (w.alloc (Obj.cells #[.int .i64 h.k, .int .i64 h.n, .string h.s, .slice h.A h.la h.lc, .slice h.F h.lf h.fc] 25)) ⟨w.heap.size, 0, none⟩ h := ⟨hbx.2 0 _ rfl, hbx.2 1 _ rfl, hbx.2 2 _ rfl, hbx.2 3 _ rfl, hbx.2 4 _ rfl⟩
  have hl : Lies (w.alloc (Obj.cells #[.int .i64 h.k, .int .i64 h.n, .string h.s, .slice h.A h.la h.lc, .slice h.F h.lf h.fc] 25)) (fun b => b < (w.alloc (Obj.cells #[.int .i64 h.k, .int .i64 h.n, .string h.s, .slice h.A h.la h.lc, .slice h.F h.lf h.fc] 25)).heap.size) a h := Lies.keep (fun p hp _ => hb.cell hp) (fun b q _ => by have := hb.size; omega) _ _ H
  have HC := Lib.hid (build_any a h ⟨w.heap.size, 0, none⟩ _ _ _ hl h5 (hun.go H hb) (heap_alloc_new w _) hsh hcn)
  have HB := Lib.hid hb
  clear hb hbx h5 hl H hun
  unfold Hd.val
  go_enter Try.func39, Try.ntmps39
  go_wp2_with fail
  refine HC.out.mono ?_
  rintro e w1 ⟨hr, hb1⟩
  have HB1 := Lib.hid (HB.out.trans (hb1.mono HB.out.size))
  have hs := HB.out.size
  clear hb1
  rcases hr with ⟨x, rfl, hx⟩ | ⟨rfl, hd⟩
  · have HX := Lib.hid (hx.mono (S' := fun b => w.heap.size ≤ b) (fun b q => Nat.le_trans hs q))
    clear hx HC
    go_wp2_with fail
    go_ret
    exact ⟨x, rfl, .inl HX.out, HB1.out⟩
  · have HX := Lib.hid hd
    clear hd HC
    go_wp2_with fail
    go_ret
    exact ⟨_, rfl, .inr ⟨rfl, HX.out⟩, HB1.out⟩
end Go.Proofs.Ytlhmdbloddpfbaa
