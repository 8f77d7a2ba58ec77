/- Two places held against each other, as the model answers it. -/
import Derived.Test.YtlhmdbloddpfbaaDOpen
import Derived.LaidEql
set_option linter.unusedVariables false
set_option linter.unusedSimpArgs false
namespace Go.Proofs.Ytlhmdbloddpfbaa
open Go.RowKit
theorem cell_block {w : World} {p : Addr} {v : Value} (h : w.cell? p = some v) : ∃ c t fz, w.heap[p.block]? = some (.cells c t fz) ∧ 0 < c.size := by
  unfold World.cell? at h
  split at h
  · rename_i c t fz e
    refine ⟨c, t, fz, e, ?_⟩
    split at h
    · simp at h
    · have := (Array.getElem?_eq_some_iff.1 h).1
      omega
  · simp at h
theorem size25 (w : World) : (sizeOf 25).run Try.prog w = .ok 5 w := Try.sizeOf25 w
/-- Against a plain block. -/
theorem cmp_plain {w : World} {p q : Addr} {v : Value} {cq : Array Value} {tq : TypeId} (hp : w.cell? p = some v) (hq : w.heap[q.block]? = some (.cells cq tq (0, 0))) (hne : p ≠ q) :
    (binOp .eql 82 (.pointer (some p)) (.pointer (some q))).run Try.prog w = .ok (.bool false) w := by
  obtain ⟨c, t, fz, hc, hs⟩ := cell_block hp
  have hsame : (sameAddr p q).run Try.prog w = .ok false w := by
    by_cases hbl : p.block = q.block
    · simp [sameAddr, hbl, hne]
    · have h0 : c.size ≠ 0 := by omega
      simp [sameAddr, hbl, World.frozen?, hc, hq, noView, viewAt, World.shape?, mayBeOne, stringish, h0]
  have h : ∀ d, (Op.equalIn (d + 1) 82 (.pointer (some p)) (.pointer (some q))).run Try.prog w = .ok false w := fun d => by simp [Op.equalIn, run_underlying Try.underlying82, size25, hsame]
  simp only [binOp]
  simp [Op.equal, Op.maxDepth, h 9999]
/-- Against whatever block. -/
theorem cmp_any {w : World} {p q : Addr} {v v' : Value} (hp : w.cell? p = some v) (hq : w.cell? q = some v') (hne : p ≠ q) (hf : w.frozen? p = false) :
    ∃ r w', (binOp .eql 82 (.pointer (some p)) (.pointer (some q))).run Try.prog w = .ok (.bool r) w' ∧ (w' = w ∨ w' = w.drew) := by
  obtain ⟨c, t, ⟨lo, hi⟩, hc, hs⟩ := cell_block hp
  obtain ⟨c', t', ⟨lo', hi'⟩, hc', hs'⟩ := cell_block hq
  have hsame : ∃ r w', (sameAddr p q).run Try.prog w = .ok r w' ∧ (w' = w ∨ w' = w.drew) := by
    by_cases hbl : p.block = q.block
    · exact ⟨false, w, by simp [sameAddr, hbl, hne], .inl rfl⟩
    · have hmb : ∃ mb, (mayBeOne p q).run Try.prog w = .ok mb w := by
        have hR : ∀ R, (mayBeOne p q).run Try.prog w = R → ∃ mb, R = .ok mb w := by
          intro R hR
          simp [mayBeOne, stringish, hc, hc', World.shape?, World.frozen?] at hR
          by_cases a1 : lo ≤ p.off ∧ p.off < hi <;> by_cases a2 : lo' ≤ q.off ∧ q.off < hi' <;> simp only [a1, a2, if_true, if_false] at hR <;> exact ⟨_, hR.symm⟩
        exact hR _ rfl
      obtain ⟨mb, hmb⟩ := hmb
      cases mb
      · exact ⟨false, w, by simp [sameAddr, hbl, hf, noView, viewAt, World.shape?, hc, hc', hmb], .inl rfl⟩
      · by_cases hfo : (Question.extern "sameAddr.stringBytes" 2).forced = true
        · exact ⟨false, w, by simp [sameAddr, hbl, hf, noView, viewAt, World.shape?, hc, hc', hmb, hfo], .inl rfl⟩
        · exact ⟨_, w.drew, by simp [sameAddr, hbl, hf, noView, viewAt, World.shape?, hc, hc', hmb, hfo]; rfl, .inr rfl⟩
  obtain ⟨r, w', h1, h2⟩ := hsame
  refine ⟨r, w', ?_, h2⟩
  have h : ∀ d, (Op.equalIn (d + 1) 82 (.pointer (some p)) (.pointer (some q))).run Try.prog w = .ok r w' := fun d => by simp [Op.equalIn, run_underlying Try.underlying82, size25, h1]
  simp only [binOp]
  simp [Op.equal, Op.maxDepth, h 9999]
end Go.Proofs.Ytlhmdbloddpfbaa
