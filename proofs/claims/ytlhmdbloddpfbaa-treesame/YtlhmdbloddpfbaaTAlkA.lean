/- Values with their pairs by their keys: what is sorted is one; plain. -/
import Derived.Test.YtlhmdbloddpfbaaTSrtM
import Derived.Test.YtlhmdbloddpfbaaTRight
set_option linter.unusedVariables false
set_option linter.unusedSimpArgs false
namespace Go.Proofs.Ytlhmdbloddpfbaa
open Go.RowKit
theorem bytesLess_lt : ∀ (x y : List UInt8), Op.bytesLess x y = decide (x < y)
  | [], [] => by simp [Op.bytesLess]
  | _ :: _, [] => by simp [Op.bytesLess]
  | [], _ :: _ => by simp [Op.bytesLess]
  | a :: x, b :: y => by
    rw [Op.bytesLess, bytesLess_lt x y]
    simp only [List.cons_lt_cons_iff]
    by_cases h1 : a < b <;> by_cases h2 : a = b <;> by_cases h3 : x < y <;> simp [h1, h2, h3]
theorem lessB_irrefl (x : ByteArray) : lessB x x = false := by simp [lessB, bytesLess_lt, List.lt_irrefl]
theorem lessB_trans {x y z : ByteArray} (h1 : lessB x y = true) (h2 : lessB y z = true) : lessB x z = true := by
  simp only [lessB, bytesLess_lt, decide_eq_true_eq] at *
  exact List.lt_trans h1 h2
theorem lessB_ntrans {x y z : ByteArray} (h1 : lessB x y = false) (h2 : lessB y z = false) : lessB x z = false := by
  simp only [lessB, bytesLess_lt, decide_eq_false_iff_not, List.not_lt] at *
  exact List.le_trans h2 h1
theorem lessB_one {x y : ByteArray} (h1 : lessB x y = false) (h2 : lessB y x = false) : x = y := by
  simp only [lessB, bytesLess_lt, decide_eq_false_iff_not, List.not_lt] at *
  have h := List.le_antisymm h2 h1
  refine Classical.byContradiction fun hne => ?_
  have := bytes_ne hne
  rw [h] at this
  simp at this
theorem lessB_asymm {x y : ByteArray} (h1 : lessB x y = true) : lessB y x = false := by
  cases h : lessB y x
  · rfl
  · have := lessB_trans h1 h
    rw [lessB_irrefl] at this
    cases this
theorem putP_perm {α : Type} (acc : List (ByteArray × α)) (p : ByteArray × α) : (putP acc p).Perm (p :: acc) := by
  unfold putP
  refine List.perm_middle.trans ?_
  rw [List.take_append_drop]
theorem foldP_perm {α : Type} : ∀ (ps acc : List (ByteArray × α)), (ps.foldl putP acc).Perm (acc ++ ps)
  | [], acc => by simp
  | p :: r, acc => by
    rw [List.foldl_cons]
    refine (foldP_perm r (putP acc p)).trans ?_
    refine ((putP_perm acc p).append_right r).trans ?_
    rw [List.cons_append]
    exact List.perm_middle.symm
theorem srtP_perm {α : Type} (ps : List (ByteArray × α)) : (srtP ps).Perm ps := by
  have := foldP_perm ps []
  rwa [List.nil_append] at this
/-- By rising keys. -/
def Rise {α : Type} (ps : List (ByteArray × α)) : Prop := ps.Pairwise fun p q => lessB p.1 q.1 = true
theorem plc_all {key : ByteArray} : ∀ {ks : List ByteArray} {x : ByteArray}, x ∈ ks.take (plc ks key) → lessB x key = true
  | [], x, h => by simp [plc] at h
  | y :: r, x, h => by
    simp only [plc] at h
    split at h
    · rename_i hy
      rw [List.take_succ_cons, List.mem_cons] at h
      rcases h with rfl | h
      · exact hy
      · exact plc_all h
    · simp at h
theorem plc_head {key : ByteArray} : ∀ {ks : List ByteArray} {x : ByteArray}, ks[plc ks key]? = some x → lessB x key = false
  | [], x, h => by simp [plc] at h
  | y :: r, x, h => by
    simp only [plc] at h
    split at h
    · exact plc_head (by simpa using h)
    · rename_i hy
      simp at h
      subst h
      simpa using hy
theorem putP_rise {α : Type} {acc : List (ByteArray × α)} {p : ByteArray × α} (h : Rise acc) (hn : p.1 ∉ acc.map Prod.fst) : Rise (putP acc p) := by
  unfold Rise putP at *
  have hk := plc_le p.1 (acc.map Prod.fst)
  generalize hkk : plc (acc.map Prod.fst) p.1 = k at *
  have ha : ∀ x ∈ acc.take k, lessB x.1 p.1 = true := fun x hx => by
    refine plc_all (ks := acc.map Prod.fst) ?_
    rw [hkk, ← List.map_take]
    exact List.mem_map_of_mem hx
  have hsp := h
  rw [← List.take_append_drop k acc, List.pairwise_append] at hsp
  obtain ⟨h1, h2, h3⟩ := hsp
  have hb : ∀ x ∈ acc.drop k, lessB p.1 x.1 = true := by
    cases hd : acc.drop k with
    | nil => simp
    | cons y r =>
      have hy0 : acc[k]? = some y := by
        have := congrArg (·[0]?) hd
        simpa [List.getElem?_drop] using this
      have hy1 : lessB y.1 p.1 = false := plc_head (ks := acc.map Prod.fst) (by rw [hkk, List.getElem?_map, hy0]; rfl)
      have hy : lessB p.1 y.1 = true := by
        cases hq : lessB p.1 y.1
        · refine absurd ?_ hn
          rw [lessB_one hq hy1]
          exact List.mem_map_of_mem (List.mem_of_getElem? hy0)
        · rfl
      intro x hx
      rcases List.mem_cons.1 hx with rfl | hx
      · exact hy
      · rw [hd, List.pairwise_cons] at h2
        exact lessB_trans hy (h2.1 x hx)
  rw [List.pairwise_append, List.pairwise_cons]
  refine ⟨h1, ⟨hb, h2⟩, fun x hx y hy => ?_⟩
  rcases List.mem_cons.1 hy with rfl | hy
  · exact ha x hx
  · exact h3 x hx y hy
theorem foldP_rise {α : Type} : ∀ (ps acc : List (ByteArray × α)), Rise acc → ((acc ++ ps).map Prod.fst).Nodup → Rise (ps.foldl putP acc)
  | [], acc, h, _ => h
  | p :: r, acc, h, hn => by
    rw [List.foldl_cons]
    refine foldP_rise r _ (putP_rise h ?_) ?_
    · rw [List.map_append, List.map_cons, List.nodup_append] at hn
      intro hm
      exact hn.2.2 _ hm _ (List.mem_cons_self ..) rfl
    · refine (List.Perm.nodup_iff ?_).2 hn
      refine List.Perm.map _ ?_
      refine ((putP_perm acc p).append_right r).trans ?_
      rw [List.cons_append]
      exact List.perm_middle.symm
theorem srtP_rise {α : Type} {ps : List (ByteArray × α)} (hn : (ps.map Prod.fst).Nodup) : Rise (srtP ps) := foldP_rise ps [] List.Pairwise.nil (by simpa using hn)
/-- Two orders by rising keys are one. -/
theorem rise_one {α : Type} : ∀ {l m : List (ByteArray × α)}, l.Perm m → Rise l → Rise m → l = m
  | [], m, hp, _, _ => (List.Perm.nil_eq hp)
  | a :: t, [], hp, _, _ => by simpa using hp.symm.nil_eq
  | a :: t, b :: r, hp, hl, hm => by
    unfold Rise at hl hm
    rw [List.pairwise_cons] at hl hm
    have h1 : a ∈ b :: r := hp.mem_iff.1 (List.mem_cons_self ..)
    have h2 : b ∈ a :: t := hp.mem_iff.2 (List.mem_cons_self ..)
    obtain rfl : a = b := by
      rcases List.mem_cons.1 h1 with rfl | h1
      · rfl
      · rcases List.mem_cons.1 h2 with rfl | h2
        · rfl
        · have q1 := hm.1 a h1
          have q2 := lessB_asymm (hl.1 b h2)
          rw [q1] at q2
          cases q2
    rw [rise_one ((List.perm_cons a).1 hp) hl.2 hm.2]
/-- What sorts by keys sorts as the reference does. -/
theorem sort_one {α : Type} {ps qs : List (ByteArray × α)} (hp : qs.Perm ps) (hr : Rise qs) (hn : (ps.map Prod.fst).Nodup) : qs = srtP ps :=
  rise_one (hp.trans (srtP_perm ps).symm) hr (srtP_rise hn)
theorem cntL_perm : ∀ {l m : List Va}, l.Perm m → cntL l = cntL m := by
  intro l m h
  induction h with
  | nil => rfl
  | cons x _ ih => simp only [cntL]; omega
  | swap x y l => simp only [cntL]; omega
  | trans _ _ h1 h2 => exact h1.trans h2
theorem RL_all {l : List Va} {d : Nat} : RL l d ↔ ∀ x ∈ l, x.R d := by
  induction l with
  | nil => simp [RL]
  | cons x r ih => simp [RL, ih]
theorem ShL_all {l : List Va} : ShL l ↔ ∀ x ∈ l, x.Sh := by
  induction l with
  | nil => simp [ShL]
  | cons x r ih => simp [ShL, ih]
theorem zip_fst {α β : Type} : ∀ {ks : List α} {f : List β}, ks.length = f.length → (ks.zip f).map Prod.fst = ks
  | [], f, h => rfl
  | x :: r, [], h => by simp at h
  | x :: r, y :: f, h => by simp [zip_fst (ks := r) (f := f) (by simpa using h)]
theorem zip_snd {α β : Type} : ∀ {ks : List α} {f : List β}, ks.length = f.length → (ks.zip f).map Prod.snd = f
  | [], [], h => rfl
  | [], y :: f, h => by simp at h
  | x :: r, [], h => by simp at h
  | x :: r, y :: f, h => by simp [zip_snd (ks := r) (f := f) (by simpa using h)]
theorem srt_keys {ks : List ByteArray} {f : List Va} (h : ks.length = f.length) : ((srtP (ks.zip f)).map Prod.fst).Perm ks ∧ ((srtP (ks.zip f)).map Prod.snd).Perm f := by
  have h1 := (srtP_perm (ks.zip f)).map Prod.fst
  have h2 := (srtP_perm (ks.zip f)).map Prod.snd
  rw [zip_fst h] at h1
  rw [zip_snd h] at h2
  exact ⟨h1, h2⟩
/-- Keys and values are as many, throughout. -/
def Va.Ev : Va → Prop
  | .mk _ _ _ l ks f => ks.length = f.length ∧ (∀ x ∈ l, x.Ev) ∧ (∀ x ∈ f, x.Ev)
theorem srt_all (a : Va) : a.Ev → a.srt.cnt = a.cnt ∧ (a.Sh → a.srt.Sh) ∧ (∀ d, a.R d → a.srt.R d) := by
  induction a using Va.ind with
  | h k n s l ks f ihl ihf =>
    intro hev
    simp only [Va.Ev] at hev
    obtain ⟨he, hl, hf⟩ := hev
    have hev2 : ks.length = (srtL f).length := by rw [srtL_length]; exact he
    obtain ⟨p1, p2⟩ := srt_keys hev2
    have cl : ∀ m : List Va, (∀ x ∈ m, x.srt.cnt = x.cnt) → cntL (srtL m) = cntL m := by
      intro m
      induction m with
      | nil => intro _; rfl
      | cons x r ih =>
        intro h
        simp only [srtL, cntL]
        rw [h x (List.mem_cons_self ..), ih fun y hy => h y (List.mem_cons_of_mem _ hy)]
    refine ⟨?_, fun hsh => ?_, fun d hr => ?_⟩
    · simp only [Va.srt, Va.cnt]
      rw [cntL_perm p2, cl l fun x hx => (ihl x hx (hl x hx)).1, cl f fun x hx => (ihf x hx (hf x hx)).1]
    · simp only [Va.srt, Va.Sh] at hsh ⊢
      refine ⟨hsh.1, ?_, fun x hx => hsh.2.2.1 x (p1.mem_iff.1 hx), ?_⟩
      · rw [ShL_all, srtL_map]
        intro x hx
        obtain ⟨y, hy, rfl⟩ := List.mem_map.1 hx
        exact (ihl y hy (hl y hy)).2.1 (ShL_all.1 hsh.2.1 y hy)
      · rw [ShL_all]
        intro x hx
        have hx2 := p2.mem_iff.1 hx
        rw [srtL_map] at hx2
        obtain ⟨y, hy, rfl⟩ := List.mem_map.1 hx2
        exact (ihf y hy (hf y hy)).2.1 (ShL_all.1 hsh.2.2.2 y hy)
    · simp only [Va.srt, Va.R] at hr ⊢
      obtain ⟨h1, h2, h3, h4, h5⟩ := hr
      refine ⟨h1, ?_, ⟨fun x hx => h3.1 x (p1.mem_iff.1 hx), p1.nodup_iff.2 h3.2⟩, ?_, ?_⟩
      · rw [srtL_length, p2.length_eq, srtL_length]
        exact h2
      · rw [RL_all, srtL_map]
        intro x hx
        obtain ⟨y, hy, rfl⟩ := List.mem_map.1 hx
        exact (ihl y hy (hl y hy)).2.2 _ (RL_all.1 h4 y hy)
      · rw [RL_all]
        intro x hx
        have hx2 := p2.mem_iff.1 hx
        rw [srtL_map] at hx2
        obtain ⟨y, hy, rfl⟩ := List.mem_map.1 hx2
        exact (ihf y hy (hf y hy)).2.2 _ (RL_all.1 h5 y hy)
theorem lies_ev {w : World} (a : Va) : ∀ (S : Nat → Prop) (h : Hd), Lies w S a h → a.Ev := by
  induction a using Va.ind with
  | h k n s l ks f ihl ihf =>
    intro S h H
    simp only [Lies] at H
    obtain ⟨⟨_, _, _, _, _, e6⟩, _, ⟨us, _, h1⟩, ⟨vs, _, h2⟩⟩ := H
    simp only [Va.Ev]
    refine ⟨e6, fun x hx => ?_, fun x hx => ?_⟩
    · obtain ⟨i, hi⟩ := List.mem_iff_getElem?.1 hx
      obtain ⟨u, _, hu⟩ := LiesL_at h1 hi
      exact ihl x hx S u hu
    · obtain ⟨i, hi⟩ := List.mem_iff_getElem?.1 hx
      obtain ⟨u, _, hu⟩ := LiesL_at h2 hi
      exact ihf x hx S u hu
end Go.Proofs.Ytlhmdbloddpfbaa
