/- Several of the texts that this claim leans on, one behind the other. -/
import Derived.Test.YtbinmhcjadkmgaaDoorJoined1JsonBack
import Derived.Deep.QuietTactic
import Derived.BigQuiet
import Derived.Test.YtbinmhcjadkmgaaDoorJLaw1
import Derived.Test.YtbinmhcjadkmgaaDoorTSam
/- cascade/json's reader: a value. -/
set_option linter.unusedVariables false
set_option linter.unusedSimpArgs false
namespace Go.Proofs.YtbinmhcjadkmgaaDoor
open Go.RowKit
theorem ext_none' {s : ByteArray} {p : Nat} (h : s.size ≤ p) : (s.extract p s.size).toList.isEmpty = true := by
  rw [Lib.toList_data, Lib.extract_data, List.drop_of_length_le (by rw [← Lib.size_eq]; exact h)]; simp
theorem ext_some' {s : ByteArray} {p : Nat} (h : p < s.size) : (s.extract p s.size).toList.isEmpty = false ∧ 0 < (s.extract p s.size).size := by
  have hz : (s.extract p s.size).size = s.size - p := by rw [ByteArray.size_extract]; omega
  refine ⟨?_, by omega⟩
  rw [Lib.toList_data]
  cases e : (s.extract p s.size).data.toList with
  | nil => have := Lib.size_eq (s.extract p s.size); rw [e, List.length_nil] at this; omega
  | cons x y => rfl
set_option maxHeartbeats 4000000 in
set_option maxRecDepth 100000 in
theorem value_end (R : Nat) (s : ByteArray) (a f : Nat) (lv b : Int) (w : World) (h : Rdr w R s a 0 b) (ha : a ≤ s.size) (hs : s.size ≤ 1000000) (hE : EV R w) (hl : s.size ≤ blk s a) :
    Calls Tryd.prog 33 #[.pointer (some ⟨R, 0, none⟩), .int .i64 lv] w fun e w' => VlR R s b (valG s f a) w e w' := by
  have HG : Hid (valG s f a = .no 4 (blk s a)) := Lib.hid (by cases f <;> (unfold valG; rw [if_pos hl]))
  have hR := h.lt
  have hbl0 := blk_le ha
  have HH := Lib.hid (show Rdr (w.alloc (Obj.cells #[.int .i64 0, .int .i64 0, .string { data := #[] }, .slice none 0 0, .slice none 0 0] 25)) R s a 0 b from h.below ((Below.refl _ _).alloc (Nat.le_refl _) _))
  have HEV := Lib.hid (show EV R (w.alloc (Obj.cells #[.int .i64 0, .int .i64 0, .string { data := #[] }, .slice none 0 0, .slice none 0 0] 25)) from hE.go ((Below.refl _ _).alloc (by omega) _))
  have HRow := Lib.hid (new_row w)
  have hQR : w.heap.size ≠ R := by omega
  have hQs : (w.alloc (Obj.cells #[.int .i64 0, .int .i64 0, .string { data := #[] }, .slice none 0 0, .slice none 0 0] 25)).heap.size = w.heap.size + 1 := by simp
  have HFROM := Lib.hid (show ∀ (a e b : Int) w1, RdP R (w.alloc (Obj.cells #[.int .i64 0, .int .i64 0, .string { data := #[] }, .slice none 0 0, .slice none 0 0] 25)) s a e b w1 → RdP R w s a e b w1 from fun a e b w1 h => h.from hR)
  obtain ⟨p, hp⟩ : ∃ p, blk s a = p := ⟨_, rfl⟩
  have HP := Lib.hid hp
  have hbl : p ≤ s.size := by rw [← hp]; exact hbl0
  have hpp : blk s p = p := by rw [← hp]; exact blk_idem s a
  have HPP := Lib.hid hpp
  clear h hE hp hpp hbl0
  go_enter Tryd.func33, Tryd.ntmps33
  go_upto_region 1 with fail
  generalize w.alloc (Obj.cells #[.int .i64 0, .int .i64 0, .string { data := #[] }, .slice none 0 0, .slice none 0 0] 25) = w0 at HH HRow HFROM HEV hQs ⊢
  have K1 := Lib.hid (blanks_any R s a 0 b w0 HH.out ha hs)
  rw [HP.out] at K1
  go_wp2_with fail
  refine K1.out.mono ?_
  rintro e1 w1 ⟨rfl, h1⟩
  have H1 := Lib.hid h1
  have c0 := h1.1.c0
  have c1 := h1.1.c1
  clear h1 K1
  go_wp2_with fail
  go_quiet (fail)
  have H2 := Lib.hid (H1.out.drewN nq)
  have c1 : (w1.drewN nq).cell? ⟨R, 1, none⟩ = some (.int .i64 p) := c1
  generalize w1.drewN nq = w2 at H2 c1 ⊢
  clear c0 H1
  have hl2 : s.size ≤ p := by rw [← HP.out]; exact hl
  rw [HP.out] at HG
  have hem := ext_none' hl2
  clear hl hl2
  go_wp2_with fail
  refine (fail_first R s p b p 4 w2 H2.out.1).mono ?_
  rintro e3 w3 ⟨rfl, h3⟩
  have H3 := Lib.hid (H2.out.trans h3)
  clear h3 c1
  have HR9 := Lib.hid (kept_row H3.out HRow.out hQR)
  have z0 := HR9.out.cell (show 0 < 5 by decide)
  have z1 := HR9.out.cell (show 1 < 5 by decide)
  have z2 := HR9.out.cell (show 2 < 5 by decide)
  have z3 := HR9.out.cell (show 3 < 5 by decide)
  have z4 := HR9.out.cell (show 4 < 5 by decide)
  have g0 := HR9.out.frozen 0
  have g1 := HR9.out.frozen 1
  have g2 := HR9.out.frozen 2
  have g3 := HR9.out.frozen 3
  have g4 := HR9.out.frozen 4
  simp only [hdAt, Hd.cells, List.getD_cons_succ, List.getD_cons_zero] at z0 z1 z2 z3 z4
  go_wp2_with fail
  refine bodyPost_ret (v := .agg #[.int .i64 0, .int .i64 0, .string ByteArray.empty, .slice none 0 0, .slice none 0 0]) (by simp [results, Tryd.results33, go_sem, z0, z1, z2, z3, z4]; try rfl) rfl ?_
  exact VlR.bad (u := ⟨0, 0, ByteArray.empty, none, 0, 0, none, 0, 0⟩) HG.out (by decide) hbl (HFROM.out _ _ _ _ H3.out) hR (Nat.le_refl _)
set_option maxHeartbeats 4000000 in
set_option maxRecDepth 100000 in
theorem value_deep (R : Nat) (s : ByteArray) (a f : Nat) (lv b : Int) (w : World) (h : Rdr w R s a 0 b) (ha : a ≤ s.size) (hs : s.size ≤ 1000000) (hE : EV R w) (hl : blk s a < s.size) (hlv : 12 < lv) :
    Calls Tryd.prog 33 #[.pointer (some ⟨R, 0, none⟩), .int .i64 lv] w fun e w' => VlR R s b (valG s 0 a) w e w' := by
  have HG : Hid (valG s 0 a = .no 5 (blk s a)) := Lib.hid (by unfold valG; rw [if_neg (by omega)])
  have hR := h.lt
  have hbl0 := blk_le ha
  have HH := Lib.hid (show Rdr (w.alloc (Obj.cells #[.int .i64 0, .int .i64 0, .string { data := #[] }, .slice none 0 0, .slice none 0 0] 25)) R s a 0 b from h.below ((Below.refl _ _).alloc (Nat.le_refl _) _))
  have HEV := Lib.hid (show EV R (w.alloc (Obj.cells #[.int .i64 0, .int .i64 0, .string { data := #[] }, .slice none 0 0, .slice none 0 0] 25)) from hE.go ((Below.refl _ _).alloc (by omega) _))
  have HRow := Lib.hid (new_row w)
  have hQR : w.heap.size ≠ R := by omega
  have hQs : (w.alloc (Obj.cells #[.int .i64 0, .int .i64 0, .string { data := #[] }, .slice none 0 0, .slice none 0 0] 25)).heap.size = w.heap.size + 1 := by simp
  have HFROM := Lib.hid (show ∀ (a e b : Int) w1, RdP R (w.alloc (Obj.cells #[.int .i64 0, .int .i64 0, .string { data := #[] }, .slice none 0 0, .slice none 0 0] 25)) s a e b w1 → RdP R w s a e b w1 from fun a e b w1 h => h.from hR)
  obtain ⟨p, hp⟩ : ∃ p, blk s a = p := ⟨_, rfl⟩
  have HP := Lib.hid hp
  have hbl : p ≤ s.size := by rw [← hp]; exact hbl0
  have hpp : blk s p = p := by rw [← hp]; exact blk_idem s a
  have HPP := Lib.hid hpp
  clear h hE hp hpp hbl0
  go_enter Tryd.func33, Tryd.ntmps33
  go_upto_region 1 with fail
  generalize w.alloc (Obj.cells #[.int .i64 0, .int .i64 0, .string { data := #[] }, .slice none 0 0, .slice none 0 0] 25) = w0 at HH HRow HFROM HEV hQs ⊢
  have K1 := Lib.hid (blanks_any R s a 0 b w0 HH.out ha hs)
  rw [HP.out] at K1
  go_wp2_with fail
  refine K1.out.mono ?_
  rintro e1 w1 ⟨rfl, h1⟩
  have H1 := Lib.hid h1
  have c0 := h1.1.c0
  have c1 := h1.1.c1
  clear h1 K1
  go_wp2_with fail
  go_quiet (fail)
  have H2 := Lib.hid (H1.out.drewN nq)
  have c1 : (w1.drewN nq).cell? ⟨R, 1, none⟩ = some (.int .i64 p) := c1
  generalize w1.drewN nq = w2 at H2 c1 ⊢
  clear c0 H1
  have hl2 : p < s.size := by rw [← HP.out]; exact hl
  rw [HP.out] at HG
  obtain ⟨hem, hpos⟩ := ext_some' hl2
  clear hl hl2
  go_wp2_with fail
  refine (fail_first R s p b p 5 w2 H2.out.1).mono ?_
  rintro e3 w3 ⟨rfl, h3⟩
  have H3 := Lib.hid (H2.out.trans h3)
  clear h3 c1
  have HR9 := Lib.hid (kept_row H3.out HRow.out hQR)
  have z0 := HR9.out.cell (show 0 < 5 by decide)
  have z1 := HR9.out.cell (show 1 < 5 by decide)
  have z2 := HR9.out.cell (show 2 < 5 by decide)
  have z3 := HR9.out.cell (show 3 < 5 by decide)
  have z4 := HR9.out.cell (show 4 < 5 by decide)
  have g0 := HR9.out.frozen 0
  have g1 := HR9.out.frozen 1
  have g2 := HR9.out.frozen 2
  have g3 := HR9.out.frozen 3
  have g4 := HR9.out.frozen 4
  simp only [hdAt, Hd.cells, List.getD_cons_succ, List.getD_cons_zero] at z0 z1 z2 z3 z4
  go_wp2_with fail
  refine bodyPost_ret (v := .agg #[.int .i64 0, .int .i64 0, .string ByteArray.empty, .slice none 0 0, .slice none 0 0]) (by simp [results, Tryd.results33, go_sem, z0, z1, z2, z3, z4]; try rfl) rfl ?_
  exact VlR.bad (u := ⟨0, 0, ByteArray.empty, none, 0, 0, none, 0, 0⟩) HG.out (by decide) hbl (HFROM.out _ _ _ _ H3.out) hR (Nat.le_refl _)
theorem lies_txt (w : World) (S : Nat → Prop) (t : ByteArray) (ht : t.size ≤ maxLen) : Lies w S (.mk 3 0 t [] [] []) ⟨3, 0, t, none, 0, 0, none, 0, 0⟩ := by
  unfold Lies
  exact ⟨⟨rfl, rfl, rfl, rfl, rfl, rfl⟩, ⟨by decide, by decide, ht, by simp, by decide, by decide, Nat.le_refl _, Nat.le_refl _⟩, ⟨[], fun h => by simp at h, by unfold LiesL; rfl⟩, ⟨[], fun h => by simp at h, by unfold LiesL; rfl⟩⟩
theorem VlR.ok {R Q : Nat} {s : ByteArray} {b : Int} {g : Got} {w w1 : World} {a : Va} {j : Nat} {u : Hd} (hg : g = .ok a j) (h : RdP R w s j 0 b w1) (hR : R < w.heap.size) (hQ : w.heap.size ≤ Q) (hl : Lies (res5 w1 Q u) (fun x => w.heap.size ≤ x) a u) :
    VlR R s b g w (.returned (.agg #[.int .i64 u.k, .int .i64 u.n, .string u.s, .slice u.A u.la u.lc, .slice u.F u.lf u.fc])) (res5 w1 Q u) := ⟨u, rfl, .inl ⟨a, j, hg, h.res hR hQ, hl⟩⟩
/-- A value that was read is the result. -/
theorem VlR.lift {R Q : Nat} {s : ByteArray} {b : Int} {g : Got} {w w2 w3 : World} {h' : Hd} (hfrom : ∀ (a e b : Int) w3, RdP R w2 s a e b w3 → RdP R w s a e b w3) (hR : R < w.heap.size) (hQ : w.heap.size ≤ Q) (hQ2 : Q < w2.heap.size) (hs : w.heap.size ≤ w2.heap.size)
    (hor : (∃ (a : Va) (j : Nat), g = .ok a j ∧ RdP R w2 s j 0 b w3 ∧ Lies w3 (fun x => w2.heap.size ≤ x) a h') ∨ (∃ (er : Int) (bd : Nat), g = .no er bd ∧ er ≠ 0 ∧ ∃ a' : Nat, a' ≤ s.size ∧ RdP R w2 s a' er bd w3)) :
    VlR R s b g w (.returned (.agg #[.int .i64 h'.k, .int .i64 h'.n, .string h'.s, .slice h'.A h'.la h'.lc, .slice h'.F h'.lf h'.fc])) (res5 w3 Q h') := by
  rcases hor with ⟨a, j, hg, hr, hl⟩ | ⟨er, bd, hg, h0, a', ha, hr⟩
  · refine VlR.ok hg (hfrom _ _ _ _ hr) hR hQ ?_
    exact Lies.keep (fun p hp _ => World.cell?_of_block (res5_set p.block (by have hp' : w2.heap.size ≤ p.block := hp; omega))) (fun b hb _ => by have hb' : w2.heap.size ≤ b := hb; show w.heap.size ≤ b; omega) a h' hl
  · exact VlR.bad hg h0 ha (hfrom _ _ _ _ hr) hR hQ
theorem RowR.lift {R Q : Nat} {s : ByteArray} {b : Int} {g : Got} {mk : Option Addr → Nat → Nat → Hd} {w w2 w3 : World} {A : Option Addr} {n c : Nat} (hfrom : ∀ (a e b : Int) w3, RdP R w2 s a e b w3 → RdP R w s a e b w3) (hR : R < w.heap.size) (hQ : w.heap.size ≤ Q) (hQ2 : Q < w2.heap.size) (hs : w.heap.size ≤ w2.heap.size)
    (hor : (∃ (a : Va) (j : Nat), g = .ok a j ∧ RdP R w2 s (j : Nat) 0 b w3 ∧ ∀ wf, (∀ k, k < w3.heap.size → w2.heap.size ≤ k → wf.heap[k]? = w3.heap[k]?) → Lies wf (fun x => w2.heap.size ≤ x) a (mk A n c)) ∨
     (∃ (er : Int) (bd : Nat), g = .no er bd ∧ er ≠ 0 ∧ ∃ a' : Nat, a' ≤ s.size ∧ RdP R w2 s (a' : Nat) er (bd : Nat) w3)) :
    VlR R s b g w (.returned (.agg #[.int .i64 (mk A n c).k, .int .i64 (mk A n c).n, .string (mk A n c).s, .slice (mk A n c).A (mk A n c).la (mk A n c).lc, .slice (mk A n c).F (mk A n c).lf (mk A n c).fc])) (res5 w3 Q (mk A n c)) := by
  rcases hor with ⟨a, j, hg, hr, hl⟩ | ⟨er, bd, hg, h0, a', ha, hr⟩
  · refine VlR.ok hg (hfrom _ _ _ _ hr) hR hQ ?_
    exact Lies.keep (fun _ _ _ => rfl) (fun b hb _ => by have hb' : w2.heap.size ≤ b := hb; show w.heap.size ≤ b; omega) a _ (hl _ (fun k h1 h2 => res5_set k (by omega)))
  · exact VlR.bad hg h0 ha (hfrom _ _ _ _ hr) hR hQ
theorem num_wide {s : ByteArray} {p j : Nat} {n : Int} (h : numG s p = .ok (leafV 2 n) j) : -9223372036854775808 ≤ n ∧ n ≤ 9223372036854775807 := by
  unfold numG at h
  split at h
  · cases h
  split at h
  · cases h
  split at h
  · cases h
  · rename_i hd
    injection h with h1 _
    injection h1 with _ h2
    rw [← h2]
    split <;> omega
set_option maxHeartbeats 4000000 in
set_option maxRecDepth 100000 in
theorem value_go (R : Nat) (s : ByteArray) (a f : Nat) (lv b : Int) (w : World) (h : Rdr w R s a 0 b) (ha : a ≤ s.size) (hs : s.size ≤ 1000000) (hE : EV R w) (hl : blk s a < s.size) (hlv : lv ≤ 12) (hwr : IntKind.i64.wrap (lv + 1) = lv + 1)
    (hV : ∀ w2 p, p ≤ s.size → Rdr w2 R s (p : Nat) 0 b → EV R w2 → Calls Tryd.prog 33 #[.pointer (some ⟨R, 0, none⟩), .int .i64 (lv + 1)] w2 fun e w' => VlR R s b (valG s f p) w2 e w') :
    Calls Tryd.prog 33 #[.pointer (some ⟨R, 0, none⟩), .int .i64 lv] w fun e w' => VlR R s b (valG s (f + 1) a) w e w' := by
  have HV := Lib.hid hV
  clear hV
  have hR := h.lt
  have hbl0 := blk_le ha
  have HH := Lib.hid (show Rdr (w.alloc (Obj.cells #[.int .i64 0, .int .i64 0, .string { data := #[] }, .slice none 0 0, .slice none 0 0] 25)) R s a 0 b from h.below ((Below.refl _ _).alloc (Nat.le_refl _) _))
  have HEV := Lib.hid (show EV R (w.alloc (Obj.cells #[.int .i64 0, .int .i64 0, .string { data := #[] }, .slice none 0 0, .slice none 0 0] 25)) from hE.go ((Below.refl _ _).alloc (by omega) _))
  have HRow := Lib.hid (new_row w)
  have hQR : w.heap.size ≠ R := by omega
  have hQs : (w.alloc (Obj.cells #[.int .i64 0, .int .i64 0, .string { data := #[] }, .slice none 0 0, .slice none 0 0] 25)).heap.size = w.heap.size + 1 := by simp
  have HFROM := Lib.hid (show ∀ (a e b : Int) w1, RdP R (w.alloc (Obj.cells #[.int .i64 0, .int .i64 0, .string { data := #[] }, .slice none 0 0, .slice none 0 0] 25)) s a e b w1 → RdP R w s a e b w1 from fun a e b w1 h => h.from hR)
  obtain ⟨p, hp⟩ : ∃ p, blk s a = p := ⟨_, rfl⟩
  have HP := Lib.hid hp
  have hbl : p ≤ s.size := by rw [← hp]; exact hbl0
  have hpp : blk s p = p := by rw [← hp]; exact blk_idem s a
  have HPP := Lib.hid hpp
  clear h hE hp hpp hbl0
  go_enter Tryd.func33, Tryd.ntmps33
  go_upto_region 1 with fail
  generalize w.alloc (Obj.cells #[.int .i64 0, .int .i64 0, .string { data := #[] }, .slice none 0 0, .slice none 0 0] 25) = w0 at HH HRow HFROM HEV hQs ⊢
  have K1 := Lib.hid (blanks_any R s a 0 b w0 HH.out ha hs)
  rw [HP.out] at K1
  go_wp2_with fail
  refine K1.out.mono ?_
  rintro e1 w1 ⟨rfl, h1⟩
  have H1 := Lib.hid h1
  have c0 := h1.1.c0
  have c1 := h1.1.c1
  clear h1 K1
  go_wp2_with fail
  go_quiet (fail)
  have H2 := Lib.hid (H1.out.drewN nq)
  have c1 : (w1.drewN nq).cell? ⟨R, 1, none⟩ = some (.int .i64 p) := c1
  generalize w1.drewN nq = w2 at H2 c1 ⊢
  clear c0 H1
  have hl2 : p < s.size := by rw [← HP.out]; exact hl
  obtain ⟨hem, hpos⟩ := ext_some' hl2
  clear hl
  go_upto_region 10 with fail
  have hidx : (s.extract p s.size)[0].toNat = (s.get! p).toNat := ext_first hl2 (Nat.le_refl _) hpos
  rw [hidx]
  clear hidx hem hpos
  obtain ⟨C, hC⟩ : ∃ C, s.get! p = C := ⟨_, rfl⟩
  have HC := Lib.hid hC
  rw [hC]
  have HG0 : Hid (valG s (f + 1) a = if C.toNat = 34 then txtG s p else if C.toNat = 45 ∨ isDg C = true then numG s p else if C.toNat = 91 then listG (valG s f) s p else if C.toNat = 123 then objG (valG s f) s p else wordG s p) := Lib.hid (by unfold valG; rw [HP.out, if_neg (by omega), HC.out])
  have HD2 := Lib.hid (fun w => digit_any C w)
  obtain ⟨dg, hdg⟩ : ∃ dg, isDg C = dg := ⟨_, rfl⟩
  rw [hdg] at HG0 HD2
  have HE2 := Lib.hid (HEV.out.rd H2.out)
  have hQ2 : w.heap.size < w2.heap.size := by have := H2.out.2.size; omega
  have hs2 : w.heap.size ≤ w2.heap.size := Nat.le_of_lt hQ2
  have HF2 := Lib.hid (show ∀ (a e b : Int) w3, RdP R w2 s a e b w3 → RdP R w s a e b w3 from fun a' e' b' w3 h3 => HFROM.out _ _ _ _ (H2.out.trans h3))
  have hC256 : C.toNat < 256 := C.toNat_lt
  have HSG := Lib.hid (show ∀ x : UInt8, C = x → sgn s p ⟨#[x]⟩ = true from fun x e => by
    unfold sgn
    rw [HPP.out, pre_drop, at_cons hl2, HC.out, e]
    simp [List.isPrefixOf])
  clear hC hl2 hdg
  by_cases d34 : C.toNat = 34
  · have e34 : ((C.toNat : Int) == 34) = true := by rw [d34]; rfl
    have HG : Hid (valG s (f + 1) a = txtG s p) := Lib.hid (by rw [HG0.out, if_pos d34])
    have KQ := Lib.hid (quoted_any R s p b w2 H2.out.1 hbl hs HE2.out)
    have hul := @uq_len s p
    clear d34 HG0 c1
    go_wp2_with fail
    refine KQ.out.mono ?_
    rintro e3 w3 h3
    have HB : Hid (∃ (t : ByteArray), e3 = .returned (.string t) ∧ (∃ (a' er : Int) (bd : Int), RdP R w2 s a' er bd w3) ∧ VlR R s b (txtG s p) w (.returned (.agg #[.int .i64 3, .int .i64 0, .string t, .slice none 0 0, .slice none 0 0])) (res5 w3 w.heap.size ⟨3, 0, t, none, 0, 0, none, 0, 0⟩)) := Lib.hid (by
      rcases h3 with ⟨q1, q2, q3⟩ | ⟨q1, q2, q3⟩
      · refine ⟨_, q2, ⟨_, _, _, q3⟩, VlR.ok (j := p + (uq s p).2.1) (by unfold txtG; rw [if_pos q1]) (HF2.out _ _ _ _ q3) hR (Nat.le_refl _) (lies_txt _ _ _ ?_)⟩
        show (uq s p).1.toArray.size ≤ maxLen
        unfold maxLen
        have : (uq s p).1.toArray.size = (uq s p).1.length := by simp
        omega
      · exact ⟨_, q2, ⟨_, _, _, q3⟩, VlR.bad (u := ⟨3, 0, ByteArray.empty, none, 0, 0, none, 0, 0⟩) (er := ((uq s p).2.2 : Nat)) (bd := p + (uq s p).2.1) (a' := p) (by unfold txtG; rw [if_neg q1]) (by omega) hbl (HF2.out _ _ _ _ q3) hR (Nat.le_refl _)⟩)
    obtain ⟨t, rfl, ⟨a', er, bd, hr⟩, hvl⟩ := HB.out
    have HVL := Lib.hid hvl
    have H3 := Lib.hid (H2.out.trans hr)
    clear h3 HB KQ hr hvl hul
    have HR9 := Lib.hid (kept_row H3.out HRow.out hQR)
    have z0 := HR9.out.cell (show 0 < 5 by decide)
    have z1 := HR9.out.cell (show 1 < 5 by decide)
    have z2 := HR9.out.cell (show 2 < 5 by decide)
    have z3 := HR9.out.cell (show 3 < 5 by decide)
    have z4 := HR9.out.cell (show 4 < 5 by decide)
    have g0 := HR9.out.frozen 0
    have g1 := HR9.out.frozen 1
    have g2 := HR9.out.frozen 2
    have g3 := HR9.out.frozen 3
    have g4 := HR9.out.frozen 4
    simp only [hdAt, Hd.cells, List.getD_cons_succ, List.getD_cons_zero] at z0 z1 z2 z3 z4
    go_wp2_with fail
    refine bodyPost_ret (v := .agg #[.int .i64 3, .int .i64 0, .string t, .slice none 0 0, .slice none 0 0]) (by simp [results, Tryd.results33, go_sem, z0, z1, z2, z3, z4]; try rfl) rfl ?_
    rw [HG.out]; exact HVL.out
  have e34 : ((C.toNat : Int) == 34) = false := by simp; omega
  by_cases d45 : C.toNat = 45
  · have e45 : ((C.toNat : Int) == 45) = true := by rw [d45]; rfl
    have HDD := Lib.hid (show C.toNat = 45 ∨ dg = true from .inl d45)
    clear d45
    have HG : Hid (valG s (f + 1) a = numG s p) := Lib.hid (by rw [HG0.out, if_neg d34, if_pos HDD.out])
    have KN := Lib.hid (fun w3 (h : RdP R w2 s p 0 b w3) => number_any R s p b w3 h.1 hbl hs (HE2.out.rd h))
    have HGI := Lib.hid (num_in hbl)
    clear HG0 c1 d34 HDD
    go_wp2_with fail
    refine (KN.out _ (RdP.start H2.out.1)).mono ?_
    rintro e3 w3 ⟨n, rfl, hn⟩
    have HB : Hid ((∃ (a' er : Int) (bd : Int), RdP R w2 s a' er bd w3) ∧ VlR R s b (numG s p) w (.returned (.agg #[.int .i64 2, .int .i64 n, .string ByteArray.empty, .slice none 0 0, .slice none 0 0])) (res5 w3 w.heap.size ⟨2, n, ByteArray.empty, none, 0, 0, none, 0, 0⟩)) := Lib.hid (by
      have hgi := HGI.out
      rcases hn with ⟨j, q1, q2⟩ | ⟨er, bd, q1, a', q2, q3⟩
      · exact ⟨⟨_, _, _, q2⟩, VlR.leaf q1 (HF2.out _ _ _ _ q2) hR (Nat.le_refl _) (by decide) (num_wide q1)⟩
      · rw [q1] at hgi
        exact ⟨⟨_, _, _, q3⟩, VlR.bad (u := ⟨2, n, ByteArray.empty, none, 0, 0, none, 0, 0⟩) q1 hgi.1 q2 (HF2.out _ _ _ _ q3) hR (Nat.le_refl _)⟩)
    obtain ⟨⟨a', er, bd, hr⟩, hvl⟩ := HB.out
    have HVL := Lib.hid hvl
    have H3 := Lib.hid (H2.out.trans hr)
    clear hn HB KN hr hvl HGI
    have HR9 := Lib.hid (kept_row H3.out HRow.out hQR)
    have z0 := HR9.out.cell (show 0 < 5 by decide)
    have z1 := HR9.out.cell (show 1 < 5 by decide)
    have z2 := HR9.out.cell (show 2 < 5 by decide)
    have z3 := HR9.out.cell (show 3 < 5 by decide)
    have z4 := HR9.out.cell (show 4 < 5 by decide)
    have g0 := HR9.out.frozen 0
    have g1 := HR9.out.frozen 1
    have g2 := HR9.out.frozen 2
    have g3 := HR9.out.frozen 3
    have g4 := HR9.out.frozen 4
    simp only [hdAt, Hd.cells, List.getD_cons_succ, List.getD_cons_zero] at z0 z1 z2 z3 z4
    go_wp2_with fail
    refine bodyPost_ret (v := .agg #[.int .i64 2, .int .i64 n, .string ByteArray.empty, .slice none 0 0, .slice none 0 0]) (by simp [results, Tryd.results33, go_sem, z0, z1, z2, z3, z4]; try rfl) rfl ?_
    rw [HG.out]; exact HVL.out
  have e45 : ((C.toNat : Int) == 45) = false := by simp; omega
  cases dg
  case true =>
    have HDD := Lib.hid (show C.toNat = 45 ∨ true = true from .inr rfl)
    have HG : Hid (valG s (f + 1) a = numG s p) := Lib.hid (by rw [HG0.out, if_neg d34, if_pos HDD.out])
    have KN := Lib.hid (fun w3 (h : RdP R w2 s p 0 b w3) => number_any R s p b w3 h.1 hbl hs (HE2.out.rd h))
    have HGI := Lib.hid (num_in hbl)
    clear HG0 c1 d34 HDD d45
    go_wp2_with fail
    refine (HD2.out _).mono ?_
    rintro e9 w9 ⟨rfl, h9⟩
    have h9 := h9.symm
    subst h9
    go_wp2_with fail
    refine (KN.out _ (RdP.start H2.out.1)).mono ?_
    rintro e3 w3 ⟨n, rfl, hn⟩
    have HB : Hid ((∃ (a' er : Int) (bd : Int), RdP R w2 s a' er bd w3) ∧ VlR R s b (numG s p) w (.returned (.agg #[.int .i64 2, .int .i64 n, .string ByteArray.empty, .slice none 0 0, .slice none 0 0])) (res5 w3 w.heap.size ⟨2, n, ByteArray.empty, none, 0, 0, none, 0, 0⟩)) := Lib.hid (by
      have hgi := HGI.out
      rcases hn with ⟨j, q1, q2⟩ | ⟨er, bd, q1, a', q2, q3⟩
      · exact ⟨⟨_, _, _, q2⟩, VlR.leaf q1 (HF2.out _ _ _ _ q2) hR (Nat.le_refl _) (by decide) (num_wide q1)⟩
      · rw [q1] at hgi
        exact ⟨⟨_, _, _, q3⟩, VlR.bad (u := ⟨2, n, ByteArray.empty, none, 0, 0, none, 0, 0⟩) q1 hgi.1 q2 (HF2.out _ _ _ _ q3) hR (Nat.le_refl _)⟩)
    obtain ⟨⟨a', er, bd, hr⟩, hvl⟩ := HB.out
    have HVL := Lib.hid hvl
    have H3 := Lib.hid (H2.out.trans hr)
    clear hn HB KN hr hvl HGI
    have HR9 := Lib.hid (kept_row H3.out HRow.out hQR)
    have z0 := HR9.out.cell (show 0 < 5 by decide)
    have z1 := HR9.out.cell (show 1 < 5 by decide)
    have z2 := HR9.out.cell (show 2 < 5 by decide)
    have z3 := HR9.out.cell (show 3 < 5 by decide)
    have z4 := HR9.out.cell (show 4 < 5 by decide)
    have g0 := HR9.out.frozen 0
    have g1 := HR9.out.frozen 1
    have g2 := HR9.out.frozen 2
    have g3 := HR9.out.frozen 3
    have g4 := HR9.out.frozen 4
    simp only [hdAt, Hd.cells, List.getD_cons_succ, List.getD_cons_zero] at z0 z1 z2 z3 z4
    go_wp2_with fail
    refine bodyPost_ret (v := .agg #[.int .i64 2, .int .i64 n, .string ByteArray.empty, .slice none 0 0, .slice none 0 0]) (by simp [results, Tryd.results33, go_sem, z0, z1, z2, z3, z4]; try rfl) rfl ?_
    rw [HG.out]; exact HVL.out
  by_cases d91 : C.toNat = 91
  · have e91 : ((C.toNat : Int) == 91) = true := by rw [d91]; rfl
    have HG : Hid (valG s (f + 1) a = listG (valG s f) s p) := Lib.hid (by rw [HG0.out, if_neg d34, if_neg (fun h => by rcases h with h | h; exact d45 h; cases h), if_pos d91])
    have KL := Lib.hid (fun w3 (h : RdP R w2 s p 0 b w3) => list_any R p s lv b (valG s f) w3 hwr h.1 (HE2.out.rd h) hs hbl HPP.out (HSG.out 91 (UInt8.toNat_inj.1 d91)) (val_in s f) HV.out)
    clear HG0 c1 d91 d34 d45
    go_wp2_with fail
    refine (HD2.out _).mono ?_
    rintro e9 w9 ⟨rfl, h9⟩
    have h9 := h9.symm
    subst h9
    go_wp2_with fail
    refine (KL.out _ (RdP.start H2.out.1)).mono ?_
    rintro e3 w3 ⟨A, n, c, rfl, hor⟩
    have HVL := Lib.hid (RowR.lift (Q := w.heap.size) HF2.out hR (Nat.le_refl _) hQ2 hs2 hor)
    have HB : Hid (∃ (a' er : Int) (bd : Int), RdP R w2 s a' er bd w3) := Lib.hid (by
      rcases hor with ⟨_, _, _, q, _⟩ | ⟨_, _, _, _, _, _, q⟩
      · exact ⟨_, _, _, q⟩
      · exact ⟨_, _, _, q⟩)
    obtain ⟨a', er, bd, hr⟩ := HB.out
    have H3 := Lib.hid (H2.out.trans hr)
    clear hor HB KL hr
    have HR9 := Lib.hid (kept_row H3.out HRow.out hQR)
    have z0 := HR9.out.cell (show 0 < 5 by decide)
    have z1 := HR9.out.cell (show 1 < 5 by decide)
    have z2 := HR9.out.cell (show 2 < 5 by decide)
    have z3 := HR9.out.cell (show 3 < 5 by decide)
    have z4 := HR9.out.cell (show 4 < 5 by decide)
    have g0 := HR9.out.frozen 0
    have g1 := HR9.out.frozen 1
    have g2 := HR9.out.frozen 2
    have g3 := HR9.out.frozen 3
    have g4 := HR9.out.frozen 4
    simp only [hdAt, Hd.cells, List.getD_cons_succ, List.getD_cons_zero] at z0 z1 z2 z3 z4
    go_wp2_with fail
    refine bodyPost_ret (v := .agg #[.int .i64 4, .int .i64 0, .string ByteArray.empty, .slice A n c, .slice none 0 0]) (by simp [results, Tryd.results33, go_sem, z0, z1, z2, z3, z4]; try rfl) rfl ?_
    rw [HG.out]; exact HVL.out
  have e91 : ((C.toNat : Int) == 91) = false := by simp; omega
  by_cases d123 : C.toNat = 123
  · have e123 : ((C.toNat : Int) == 123) = true := by rw [d123]; rfl
    have HG : Hid (valG s (f + 1) a = objG (valG s f) s p) := Lib.hid (by rw [HG0.out, if_neg d34, if_neg (fun h => by rcases h with h | h; exact d45 h; cases h), if_neg d91, if_pos d123])
    have KL := Lib.hid (fun w3 (h : RdP R w2 s p 0 b w3) => object_any R p s lv b (valG s f) w3 hwr h.1 (HE2.out.rd h) hs hbl HPP.out (HSG.out 123 (UInt8.toNat_inj.1 d123)) (val_in s f) HV.out)
    clear HG0 c1 d123 d34 d45 d91
    go_wp2_with fail
    refine (HD2.out _).mono ?_
    rintro e9 w9 ⟨rfl, h9⟩
    have h9 := h9.symm
    subst h9
    go_wp2_with fail
    refine (KL.out _ (RdP.start H2.out.1)).mono ?_
    rintro e3 w3 ⟨A, n, c, rfl, hor⟩
    have HVL := Lib.hid (RowR.lift (Q := w.heap.size) HF2.out hR (Nat.le_refl _) hQ2 hs2 hor)
    have HB : Hid (∃ (a' er : Int) (bd : Int), RdP R w2 s a' er bd w3) := Lib.hid (by
      rcases hor with ⟨_, _, _, q, _⟩ | ⟨_, _, _, _, _, _, q⟩
      · exact ⟨_, _, _, q⟩
      · exact ⟨_, _, _, q⟩)
    obtain ⟨a', er, bd, hr⟩ := HB.out
    have H3 := Lib.hid (H2.out.trans hr)
    clear hor HB KL hr
    have HR9 := Lib.hid (kept_row H3.out HRow.out hQR)
    have z0 := HR9.out.cell (show 0 < 5 by decide)
    have z1 := HR9.out.cell (show 1 < 5 by decide)
    have z2 := HR9.out.cell (show 2 < 5 by decide)
    have z3 := HR9.out.cell (show 3 < 5 by decide)
    have z4 := HR9.out.cell (show 4 < 5 by decide)
    have g0 := HR9.out.frozen 0
    have g1 := HR9.out.frozen 1
    have g2 := HR9.out.frozen 2
    have g3 := HR9.out.frozen 3
    have g4 := HR9.out.frozen 4
    simp only [hdAt, Hd.cells, List.getD_cons_succ, List.getD_cons_zero] at z0 z1 z2 z3 z4
    go_wp2_with fail
    refine bodyPost_ret (v := .agg #[.int .i64 5, .int .i64 0, .string ByteArray.empty, .slice none 0 0, .slice A n c]) (by simp [results, Tryd.results33, go_sem, z0, z1, z2, z3, z4]; try rfl) rfl ?_
    rw [HG.out]; exact HVL.out
  have e123 : ((C.toNat : Int) == 123) = false := by simp; omega
  have HG : Hid (valG s (f + 1) a = wordG s p) := Lib.hid (by rw [HG0.out, if_neg d34, if_neg (fun h => by rcases h with h | h; exact d45 h; cases h), if_neg d91, if_neg d123])
  have KW := Lib.hid (fun w3 (h : RdP R w2 s p 0 b w3) => word_any R s p b w3 h.1 hbl hs)
  clear HG0 c1 d34 d45 d91 d123
  go_wp2_with fail
  refine (HD2.out _).mono ?_
  rintro e9 w9 ⟨rfl, h9⟩
  have h9 := h9.symm
  subst h9
  go_wp2_with fail
  refine (KW.out _ (RdP.start H2.out.1)).mono ?_
  rintro e3 w3 ⟨h', rfl, hor⟩
  have HVL := Lib.hid (VlR.lift (Q := w.heap.size) HF2.out hR (Nat.le_refl _) hQ2 hs2 hor)
  have H3 : Hid (∃ (a' er : Int) (bd : Int), RdP R w2 s a' er bd w3) := Lib.hid (by
    rcases hor with ⟨_, _, _, q, _⟩ | ⟨_, _, _, _, _, _, q⟩
    · exact ⟨_, _, _, q⟩
    · exact ⟨_, _, _, q⟩)
  obtain ⟨a', er, bd, hr⟩ := H3.out
  have H4 := Lib.hid (H2.out.trans hr)
  clear hor H3 KW hr
  have HR9 := Lib.hid (kept_row H4.out HRow.out hQR)
  have z0 := HR9.out.cell (show 0 < 5 by decide)
  have z1 := HR9.out.cell (show 1 < 5 by decide)
  have z2 := HR9.out.cell (show 2 < 5 by decide)
  have z3 := HR9.out.cell (show 3 < 5 by decide)
  have z4 := HR9.out.cell (show 4 < 5 by decide)
  have g0 := HR9.out.frozen 0
  have g1 := HR9.out.frozen 1
  have g2 := HR9.out.frozen 2
  have g3 := HR9.out.frozen 3
  have g4 := HR9.out.frozen 4
  simp only [hdAt, Hd.cells, List.getD_cons_succ, List.getD_cons_zero] at z0 z1 z2 z3 z4
  go_wp2_with fail
  refine bodyPost_ret (v := .agg #[.int .i64 h'.k, .int .i64 h'.n, .string h'.s, .slice h'.A h'.la h'.lc, .slice h'.F h'.lf h'.fc]) (by simp [results, Tryd.results33, go_sem, z0, z1, z2, z3, z4]; try rfl) rfl ?_
  rw [HG.out]; exact HVL.out
end Go.Proofs.YtbinmhcjadkmgaaDoor

/- cascade/json's Read and Parse. -/
set_option linter.unusedVariables false
set_option linter.unusedSimpArgs false
namespace Go.Proofs.YtbinmhcjadkmgaaDoor
open Go.RowKit
theorem lv_wrap {lv : Int} (h1 : 1 ≤ lv) (h2 : lv ≤ 13) : IntKind.i64.wrap (lv + 1) = lv + 1 := by
  have : lv = 1 ∨ lv = 2 ∨ lv = 3 ∨ lv = 4 ∨ lv = 5 ∨ lv = 6 ∨ lv = 7 ∨ lv = 8 ∨ lv = 9 ∨ lv = 10 ∨ lv = 11 ∨ lv = 12 ∨ lv = 13 := by omega
  rcases this with h | h | h | h | h | h | h | h | h | h | h | h | h <;> subst h <;> rfl
theorem valG_end {s : ByteArray} {a : Nat} (h : s.size ≤ blk s a) : ∀ f, valG s f a = .no 4 (blk s a) := fun f => by cases f <;> (unfold valG; rw [if_pos h])
/-- A value, at every level. -/
theorem value_any (R : Nat) (s : ByteArray) (b : Int) (hs : s.size ≤ 1000000) : ∀ (f : Nat), f ≤ 12 → ∀ (a : Nat) (w : World), a ≤ s.size → Rdr w R s a 0 b → EV R w → Calls Tryd.prog 33 #[.pointer (some ⟨R, 0, none⟩), .int .i64 ((13 - f : Nat) : Int)] w fun e w' => VlR R s b (valG s f a) w e w'
  | 0, _, a, w, ha, h, hE => by
    by_cases hl : s.size ≤ blk s a
    · exact value_end R s a 0 _ b w h ha hs hE hl
    · exact value_deep R s a 0 _ b w h ha hs hE (by omega) (by decide)
  | f + 1, hf, a, w, ha, h, hE => by
    by_cases hl : s.size ≤ blk s a
    · exact value_end R s a (f + 1) _ b w h ha hs hE hl
    · have hw : (((13 - (f + 1) : Nat) : Int) + 1) = ((13 - f : Nat) : Int) := by omega
      exact value_go R s a f _ b w h ha hs hE (by omega) (by omega) (lv_wrap (by omega) (by omega)) (by
        intro w2 p hp h2 hE2
        rw [hw]
        exact value_any R s b hs f (by omega) p w2 hp h2 hE2)
/-- How what is read lies. -/
def ReadR (s : ByteArray) (w : World) (e : Ending) (w' : World) : Prop :=
  ∃ h' : Hd, e = .returned (.tuple #[.agg #[.int .i64 h'.k, .int .i64 h'.n, .string h'.s, .slice h'.A h'.la h'.lc, .slice h'.F h'.lf h'.fc], .int .i64 (parseG s).2.1, .int .i64 (parseG s).2.2]) ∧ Below w.heap.size w w' ∧ Lies w' (fun x => w.heap.size ≤ x) (parseG s).1 h'
/-- What the end does to what went wrong. -/
def endE (s : ByteArray) (a : Nat) (e : Int) : Int := if e ≠ 0 then e else if blk s a < s.size then 4 else 0
def endB (s : ByteArray) (a : Nat) (e b : Int) : Int := if e ≠ 0 then b else if blk s a < s.size then (blk s a : Int) else b
theorem end_any (R : Nat) (s : ByteArray) (a : Nat) (e b : Int) (w : World) (h : Rdr w R s a e b) (ha : a ≤ s.size) (hs : s.size ≤ 1000000) : Calls Tryd.prog 34 #[.pointer (some ⟨R, 0, none⟩)] w fun e' w' => e' = .returned (.tuple #[]) ∧ RdP R w s (blk s a) (endE s a e) (endB s a e b) w' := by
  by_cases he : e = 0
  · subst he
    by_cases hl : blk s a < s.size
    · have e1 : endE s a 0 = 4 := by unfold endE; rw [if_neg (by simp), if_pos hl]
      have e2 : endB s a 0 b = (blk s a : Int) := by unfold endB; rw [if_neg (by simp), if_pos hl]
      rw [e1, e2]
      exact end_more R s a b w h ha hs hl
    · have e1 : endE s a 0 = 0 := by unfold endE; rw [if_neg (by simp), if_neg hl]
      have e2 : endB s a 0 b = b := by unfold endB; rw [if_neg (by simp), if_neg hl]
      rw [e1, e2]
      exact end_none R s a 0 b w h ha hs hl
  · have e1 : endE s a e = e := by unfold endE; rw [if_pos he]
    have e2 : endB s a e b = b := by unfold endB; rw [if_pos he]
    rw [e1, e2]
    exact end_bad R s a e b w h he ha hs
/-- What was read, and how the reader stands: in one. -/
theorem VlR.read {R : Nat} {s : ByteArray} {w w' : World} {h' : Hd}
    (hor : (∃ (a : Va) (j : Nat), valG s 12 0 = .ok a j ∧ RdP R w s j 0 0 w' ∧ Lies w' (fun x => w.heap.size ≤ x) a h') ∨ (∃ (er : Int) (bd : Nat), valG s 12 0 = .no er bd ∧ er ≠ 0 ∧ ∃ a' : Nat, a' ≤ s.size ∧ RdP R w s a' er bd w')) :
    ∃ (a : Nat) (e b : Int), a ≤ s.size ∧ RdP R w s a e b w' ∧ ((endE s a e ≠ 0 ∧ parseG s = (leafV 0 0, endB s a e b, endE s a e)) ∨ (endE s a e = 0 ∧ ∃ v, parseG s = (v, -1, 0) ∧ Lies w' (fun x => w.heap.size ≤ x) v h')) := by
  rcases hor with ⟨v, j, hg, hr, hl⟩ | ⟨er, bd, hg, h0, a', ha, hr⟩
  · have hj := val_in s 12 0 (by omega)
    rw [hg] at hj
    refine ⟨j, 0, 0, hj.2, hr, ?_⟩
    by_cases hb : blk s j < s.size
    · refine .inl ⟨?_, ?_⟩
      · unfold endE; rw [if_neg (by simp), if_pos hb]; decide
      · unfold parseG endE endB
        rw [hg]
        simp only [if_pos hb]
        simp
    · refine .inr ⟨?_, v, ?_, hl⟩
      · unfold endE; rw [if_neg (by simp), if_neg hb]
      · unfold parseG
        rw [hg]
        simp only [if_neg hb]
  · refine ⟨a', er, bd, ha, hr, .inl ⟨?_, ?_⟩⟩
    · unfold endE; rw [if_pos h0]; exact h0
    · unfold parseG endE endB
      rw [hg]
      simp only [if_pos h0]
theorem EV.up {R N : Nat} {w w' : World} (h : EV N w) (hb : Below N w w') (hN : N ≤ R) : EV R w' := fun w2 h2 => h w2 (hb.trans (h2.mono hN))
theorem lies_leaf0 (w : World) (S : Nat → Prop) : Lies w S (leafV 0 0) ⟨0, 0, ByteArray.empty, none, 0, 0, none, 0, 0⟩ := by
  unfold leafV Lies
  exact ⟨⟨rfl, rfl, rfl, rfl, rfl, rfl⟩, ⟨by decide, by decide, by decide, by simp, by decide, by decide, Nat.le_refl _, Nat.le_refl _⟩, ⟨[], fun h => by simp at h, by unfold LiesL; rfl⟩, ⟨[], fun h => by simp at h, by unfold LiesL; rfl⟩⟩
theorem drew_cell' (w : World) (p : Addr) : w.drew.cell? p = w.cell? p := rfl
theorem res5_drew {w : World} {Q : Nat} {u : Hd} {p : Addr} {v : Value} (h : w.cell? p = some v) (hp : p.block ≠ Q) : (res5 w Q u).drew.cell? p = some v := by
  rw [drew_cell', World.cell?_of_block (res5_set p.block hp)]
  exact h
set_option maxHeartbeats 2000000 in
set_option maxRecDepth 100000 in
theorem read_ok (s : ByteArray) (w : World) (hs : s.size ≤ 4000) (hE : EV w.heap.size w) : Calls Tryd.prog 21 #[.string s, .int .i64 4000] w (ReadR s w) := by
  have hgt : (decide ((4000 : Int) < (s.size : Int))) = false := decide_eq_false (by omega)
  have HRow := Lib.hid (new_row w)
  have hb0 : Below w.heap.size w ((w.alloc (Obj.cells #[.int .i64 0, .int .i64 0, .string { data := #[] }, .slice none 0 0, .slice none 0 0] 25)).alloc (Obj.cells #[.string s, .int .i64 0, .int .i64 0, .int .i64 0] 64)) := ((Below.refl _ _).alloc (Nat.le_refl _) _).alloc (by simp) _
  have hsz0 : ((w.alloc (Obj.cells #[.int .i64 0, .int .i64 0, .string { data := #[] }, .slice none 0 0, .slice none 0 0] 25)).alloc (Obj.cells #[.string s, .int .i64 0, .int .i64 0, .int .i64 0] 64)).heap.size = w.heap.size + 1 + 1 := by simp
  have hrd : Rdr ((w.alloc (Obj.cells #[.int .i64 0, .int .i64 0, .string { data := #[] }, .slice none 0 0, .slice none 0 0] 25)).alloc (Obj.cells #[.string s, .int .i64 0, .int .i64 0, .int .i64 0] 64)) (w.heap.size + 1) s 0 0 0 := by
    have := heap_alloc_new (w.alloc (Obj.cells #[.int .i64 0, .int .i64 0, .string { data := #[] }, .slice none 0 0, .slice none 0 0] 25)) (Obj.cells #[.string s, .int .i64 0, .int .i64 0, .int .i64 0] 64)
    rw [show (w.alloc (Obj.cells #[.int .i64 0, .int .i64 0, .string { data := #[] }, .slice none 0 0, .slice none 0 0] 25)).heap.size = w.heap.size + 1 by simp] at this
    exact this
  have HRow := Lib.hid (rowIs_blk HRow.out (Below.heap_alloc _ (Obj.cells #[.string s, .int .i64 0, .int .i64 0, .int .i64 0] 64) _ (by simp)))
  have hE0 := hE.up hb0 (Nat.le_refl _)
  have HB0 := Lib.hid hb0
  have HS0 := Lib.hid hsz0
  have HRD := Lib.hid hrd
  have HE0 := Lib.hid hE0
  clear hb0 hsz0 hrd hE0 hE
  go_enter Tryd.func21, Tryd.ntmps21
  go_wp2_with fail
  generalize (w.alloc (Obj.cells #[.int .i64 0, .int .i64 0, .string { data := #[] }, .slice none 0 0, .slice none 0 0] 25)).alloc (Obj.cells #[.string s, .int .i64 0, .int .i64 0, .int .i64 0] 64) = w0 at HRow HB0 HS0 HRD HE0 ⊢
  have K1 := Lib.hid (value_any (w.heap.size + 1) s 0 (by omega) 12 (by omega) 0 w0 (by omega) HRD.out (fun w2 h2 => HE0.out w2 (h2.mono (by omega))))
  refine K1.out.mono ?_
  rintro e1 w1 ⟨h', rfl, hor⟩
  obtain ⟨a, e, b, ha, hr, hor⟩ := VlR.read hor
  have HA := Lib.hid ha
  have HRP := Lib.hid hr
  have HOR := Lib.hid hor
  clear ha hr hor K1
  go_wp2_with fail
  have hw1 := HRP.out.2.size
  rw [HS0.out] at hw1
  have HV := Lib.hid (show (w1.alloc (Obj.cells #[.int .i64 h'.k, .int .i64 h'.n, .string h'.s, .slice h'.A h'.la h'.lc, .slice h'.F h'.lf h'.fc] 25)).rowIs w1.heap.size 25 5 (hdAt h') from hdAt_row (heap_alloc_new _ _))
  have HRP2 := Lib.hid (HRP.out.alloc (Obj.cells #[.int .i64 h'.k, .int .i64 h'.n, .string h'.s, .slice h'.A h'.la h'.lc, .slice h'.F h'.lf h'.fc] 25))
  have HW2 := Lib.hid (show ∀ k, k < w1.heap.size → (w1.alloc (Obj.cells #[.int .i64 h'.k, .int .i64 h'.n, .string h'.s, .slice h'.A h'.la h'.lc, .slice h'.F h'.lf h'.fc] 25)).heap[k]? = w1.heap[k]? from fun k hk => Below.heap_alloc _ _ _ hk)
  have HLI := Lib.hid (show ∀ v, Lies w1 (fun x => w0.heap.size ≤ x) v h' → Lies (w1.alloc (Obj.cells #[.int .i64 h'.k, .int .i64 h'.n, .string h'.s, .slice h'.A h'.la h'.lc, .slice h'.F h'.lf h'.fc] 25)) (fun x => w0.heap.size ≤ x) v h' from fun v hv => hv.below ((Below.refl w1.heap.size w1).alloc (Nat.le_refl _) _) (Nat.le_refl _))
  have HVs := Lib.hid (show w1.heap.size < (w1.alloc (Obj.cells #[.int .i64 h'.k, .int .i64 h'.n, .string h'.s, .slice h'.A h'.la h'.lc, .slice h'.F h'.lf h'.fc] 25)).heap.size by simp)
  have HVR := Lib.hid (show w1.heap.size ≠ w.heap.size + 1 by omega)
  have HQR := Lib.hid (show w.heap.size ≠ w.heap.size + 1 by omega)
  have HQ0 := Lib.hid (show w.heap.size < w0.heap.size by rw [HS0.out]; omega)
  generalize w1.alloc (Obj.cells #[.int .i64 h'.k, .int .i64 h'.n, .string h'.s, .slice h'.A h'.la h'.lc, .slice h'.F h'.lf h'.fc] 25) = w2 at HV HRP2 HW2 HLI HVs ⊢
  clear hw1 HW2
  refine (end_any (w.heap.size + 1) s a e b w2 HRP2.out.1 HA.out (by omega)).mono ?_
  rintro e3 w3 ⟨rfl, h3⟩
  have H3 := Lib.hid (HRP2.out.trans h3)
  have HK := Lib.hid h3.2
  clear h3
  generalize endE s a e = E at H3 HOR
  generalize endB s a e b = B at H3 HOR
  have HR9 := Lib.hid (rowIs_blk HRow.out (H3.out.2.block _ HQR.out HQ0.out))
  have z0 := HR9.out.cell (show 0 < 5 by decide)
  have z1 := HR9.out.cell (show 1 < 5 by decide)
  have z2 := HR9.out.cell (show 2 < 5 by decide)
  have z3 := HR9.out.cell (show 3 < 5 by decide)
  have z4 := HR9.out.cell (show 4 < 5 by decide)
  have g0 := HR9.out.frozen 0
  have g1 := HR9.out.frozen 1
  have g2 := HR9.out.frozen 2
  have g3 := HR9.out.frozen 3
  have g4 := HR9.out.frozen 4
  simp only [hdAt, Hd.cells, List.getD_cons_succ, List.getD_cons_zero] at z0 z1 z2 z3 z4
  have c2 := H3.out.1.c2
  have c3 := H3.out.1.c3
  rcases HOR.out with ⟨hE, hp⟩ | ⟨hE, v, hp, hl⟩
  · have hEb : (E != 0) = true := by simpa using hE
    have HP := Lib.hid hp
    clear hp hE
    have HS0 := Lib.hid (show w3.drew.cell? ⟨w.heap.size + 1, 2, none⟩ = some (.int .i64 E) ∧ w3.drew.cell? ⟨w.heap.size + 1, 3, none⟩ = some (.int .i64 B) from ⟨c2, c3⟩)
    have HS1 := Lib.hid (show (res5 w3 w.heap.size ⟨0, 0, ⟨#[]⟩, none, 0, 0, none, 0, 0⟩).drew.cell? ⟨w.heap.size + 1, 2, none⟩ = some (.int .i64 E) ∧ (res5 w3 w.heap.size ⟨0, 0, ⟨#[]⟩, none, 0, 0, none, 0, 0⟩).drew.cell? ⟨w.heap.size + 1, 3, none⟩ = some (.int .i64 B) from ⟨res5_drew c2 (show w.heap.size + 1 ≠ w.heap.size by omega), res5_drew c3 (show w.heap.size + 1 ≠ w.heap.size by omega)⟩)
    clear hgt
    go_wp2_with fail
    go_region_held3 (fun w' => w'.cell? ⟨w.heap.size + 1, 2, none⟩ = some (.int .i64 E) ∧ w'.cell? ⟨w.heap.size + 1, 3, none⟩ = some (.int .i64 B))
      (first
        | (have h7 := HS0.out; with_reducible exact h7)
        | (have h7 := HS1.out; with_reducible exact h7)
        | fail)
      (fail)
    go_wp2_with fail
    refine bodyPost_ret (v := .tuple #[.agg #[.int .i64 0, .int .i64 0, .string ByteArray.empty, .slice none 0 0, .slice none 0 0], .int .i64 B, .int .i64 E]) (by simp [results, Tryd.results21, go_sem, z0, z1, z2, z3, z4]; try rfl) rfl ?_
    refine ⟨⟨0, 0, ByteArray.empty, none, 0, 0, none, 0, 0⟩, by rw [HP.out], (res5_below (u := ⟨0, 0, ByteArray.empty, none, 0, 0, none, 0, 0⟩) (HB0.out.trans (H3.out.2.bel.mono (by omega))) (Nat.le_refl _)).drew, ?_⟩
    rw [HP.out]
    exact lies_leaf0 _ _
  · subst hE
    have HP := Lib.hid hp
    have HL := Lib.hid hl
    have HR8 := Lib.hid (rowIs_blk HV.out (HK.out.block _ HVR.out HVs.out))
    have v0 := HR8.out.cell (show 0 < 5 by decide)
    have v1 := HR8.out.cell (show 1 < 5 by decide)
    have v2 := HR8.out.cell (show 2 < 5 by decide)
    have v3 := HR8.out.cell (show 3 < 5 by decide)
    have v4 := HR8.out.cell (show 4 < 5 by decide)
    simp only [hdAt, Hd.cells, List.getD_cons_succ, List.getD_cons_zero] at v0 v1 v2 v3 v4
    clear hp hl
    go_wp2_with fail
    refine bodyPost_ret (v := .tuple #[.agg #[.int .i64 h'.k, .int .i64 h'.n, .string h'.s, .slice h'.A h'.la h'.lc, .slice h'.F h'.lf h'.fc], .int .i64 (-1), .int .i64 0]) (by simp [results, Tryd.results21, go_sem, z0, z1, z2, z3, z4]; try rfl) rfl ?_
    refine ⟨h', by rw [HP.out], res5_below (u := h') (HB0.out.trans (H3.out.2.bel.mono (by omega))) (Nat.le_refl _), ?_⟩
    rw [HP.out]
    have hs0 := HS0.out
    refine Lies.keep (fun p hp hp2 => World.cell?_of_block ?_) (fun b hb _ => by have hb' : w0.heap.size ≤ b := hb; show w.heap.size ≤ b; omega) v h' (HLI.out v HL.out)
    have hp' : w0.heap.size ≤ p.block := hp
    rw [res5_set (u := h') p.block (by omega)]
    exact HK.out.block p.block (by omega) hp2
set_option maxHeartbeats 2000000 in
set_option maxRecDepth 100000 in
theorem read_long (s : ByteArray) (w : World) (hs : 4000 < s.size) (hm : s.size ≤ maxLen) : Calls Tryd.prog 21 #[.string s, .int .i64 4000] w fun e w' => e = .returned (.tuple #[.agg #[.int .i64 0, .int .i64 0, .string ByteArray.empty, .slice none 0 0, .slice none 0 0], .int .i64 0, .int .i64 6]) ∧ Below w.heap.size w w' := by
  have hgt : (decide ((4000 : Int) < (s.size : Int))) = true := decide_eq_true (by omega)
  have HRow := Lib.hid (new_row w)
  have hb0 := Lib.hid ((Below.refl w.heap.size w).alloc (Nat.le_refl _) (Obj.cells #[.int .i64 0, .int .i64 0, .string { data := #[] }, .slice none 0 0, .slice none 0 0] 25))
  go_enter Tryd.func21, Tryd.ntmps21
  go_wp2_with fail
  refine bodyPost_ret (v := .tuple #[.agg #[.int .i64 0, .int .i64 0, .string ByteArray.empty, .slice none 0 0, .slice none 0 0], .int .i64 0, .int .i64 6]) (by simp [results, Tryd.results21, go_sem]; try rfl) rfl ?_
  exact ⟨rfl, hb0.out⟩
set_option maxHeartbeats 2000000 in
set_option maxRecDepth 100000 in
theorem parse_ok (s : ByteArray) (w : World) (hs : s.size ≤ 4000) (hE : EV w.heap.size w) : Calls Tryd.prog 12 #[.string s] w (ReadR s w) := by
  have HRow := Lib.hid (new_row w)
  have HB0 := Lib.hid ((Below.refl w.heap.size w).alloc (Nat.le_refl _) (Obj.cells #[.int .i64 0, .int .i64 0, .string { data := #[] }, .slice none 0 0, .slice none 0 0] 25))
  have HS0 := Lib.hid (show (w.alloc (Obj.cells #[.int .i64 0, .int .i64 0, .string { data := #[] }, .slice none 0 0, .slice none 0 0] 25)).heap.size = w.heap.size + 1 by simp)
  have HE := Lib.hid hE
  clear hE
  go_enter Tryd.func12, Tryd.ntmps12
  go_wp2_with fail
  generalize w.alloc (Obj.cells #[.int .i64 0, .int .i64 0, .string { data := #[] }, .slice none 0 0, .slice none 0 0] 25) = w0 at HRow HB0 HS0 ⊢
  refine (read_ok s w0 hs (HE.out.up HB0.out (by rw [HS0.out]; omega))).mono ?_
  rintro e w1 ⟨h', rfl, hb, hl⟩
  have HB := Lib.hid hb
  have HL := Lib.hid hl
  have HR9 := Lib.hid (rowIs_blk HRow.out (hb.block _ (show w.heap.size < w0.heap.size by rw [HS0.out]; omega)))
  have z0 := HR9.out.cell (show 0 < 5 by decide)
  have z1 := HR9.out.cell (show 1 < 5 by decide)
  have z2 := HR9.out.cell (show 2 < 5 by decide)
  have z3 := HR9.out.cell (show 3 < 5 by decide)
  have z4 := HR9.out.cell (show 4 < 5 by decide)
  have g0 := HR9.out.frozen 0
  have g1 := HR9.out.frozen 1
  have g2 := HR9.out.frozen 2
  have g3 := HR9.out.frozen 3
  have g4 := HR9.out.frozen 4
  simp only [hdAt, Hd.cells, List.getD_cons_succ, List.getD_cons_zero] at z0 z1 z2 z3 z4
  clear hb hl
  obtain ⟨m, hm⟩ : ∃ m, (parseG s).2.1 = m := ⟨_, rfl⟩
  obtain ⟨er, her⟩ : ∃ er, (parseG s).2.2 = er := ⟨_, rfl⟩
  rw [hm, her]
  have HM := Lib.hid hm
  have HER := Lib.hid her
  clear hm her
  go_wp2_with fail
  refine bodyPost_ret (v := .tuple #[.agg #[.int .i64 h'.k, .int .i64 h'.n, .string h'.s, .slice h'.A h'.la h'.lc, .slice h'.F h'.lf h'.fc], .int .i64 m, .int .i64 er]) (by simp [results, Tryd.results12, go_sem, z0, z1, z2, z3, z4]; try rfl) rfl ?_
  have hs0 := HS0.out
  refine ⟨h', by rw [HM.out, HER.out], res5_below (u := h') (HB0.out.trans (HB.out.mono (by omega))) (Nat.le_refl _), ?_⟩
  refine Lies.keep (fun p hp hp2 => World.cell?_of_block ?_) (fun b hb _ => by have hb' : w0.heap.size ≤ b := hb; show w.heap.size ≤ b; omega) _ h' HL.out
  have hp' : w0.heap.size ≤ p.block := hp
  rw [res5_set (u := h') p.block (by omega)]
set_option maxHeartbeats 2000000 in
set_option maxRecDepth 100000 in
theorem parse_long (s : ByteArray) (w : World) (hs : 4000 < s.size) (hm : s.size ≤ maxLen) : Calls Tryd.prog 12 #[.string s] w fun e w' => e = .returned (.tuple #[.agg #[.int .i64 0, .int .i64 0, .string ByteArray.empty, .slice none 0 0, .slice none 0 0], .int .i64 0, .int .i64 6]) ∧ Below w.heap.size w w' := by
  have HRow := Lib.hid (new_row w)
  have HB0 := Lib.hid ((Below.refl w.heap.size w).alloc (Nat.le_refl _) (Obj.cells #[.int .i64 0, .int .i64 0, .string { data := #[] }, .slice none 0 0, .slice none 0 0] 25))
  have HS0 := Lib.hid (show (w.alloc (Obj.cells #[.int .i64 0, .int .i64 0, .string { data := #[] }, .slice none 0 0, .slice none 0 0] 25)).heap.size = w.heap.size + 1 by simp)
  go_enter Tryd.func12, Tryd.ntmps12
  go_wp2_with fail
  generalize w.alloc (Obj.cells #[.int .i64 0, .int .i64 0, .string { data := #[] }, .slice none 0 0, .slice none 0 0] 25) = w0 at HRow HB0 HS0 ⊢
  refine (read_long s w0 hs hm).mono ?_
  rintro e w1 ⟨rfl, hb⟩
  have HB := Lib.hid hb
  have HR9 := Lib.hid (rowIs_blk HRow.out (hb.block _ (show w.heap.size < w0.heap.size by rw [HS0.out]; omega)))
  have z0 := HR9.out.cell (show 0 < 5 by decide)
  have z1 := HR9.out.cell (show 1 < 5 by decide)
  have z2 := HR9.out.cell (show 2 < 5 by decide)
  have z3 := HR9.out.cell (show 3 < 5 by decide)
  have z4 := HR9.out.cell (show 4 < 5 by decide)
  have g0 := HR9.out.frozen 0
  have g1 := HR9.out.frozen 1
  have g2 := HR9.out.frozen 2
  have g3 := HR9.out.frozen 3
  have g4 := HR9.out.frozen 4
  simp only [hdAt, Hd.cells, List.getD_cons_succ, List.getD_cons_zero] at z0 z1 z2 z3 z4
  clear hb
  go_wp2_with fail
  refine bodyPost_ret (v := .tuple #[.agg #[.int .i64 0, .int .i64 0, .string ByteArray.empty, .slice none 0 0, .slice none 0 0], .int .i64 0, .int .i64 6]) (by simp [results, Tryd.results12, go_sem, z0, z1, z2, z3, z4]; try rfl) rfl ?_
  have hs0 := HS0.out
  exact ⟨rfl, res5_below (u := ⟨0, 0, ByteArray.empty, none, 0, 0, none, 0, 0⟩) (HB0.out.trans (HB.out.mono (by omega))) (Nat.le_refl _)⟩
end Go.Proofs.YtbinmhcjadkmgaaDoor

/- JsonBack, walked. -/
set_option linter.unusedVariables false
set_option linter.unusedSimpArgs false
namespace Go.Proofs.YtbinmhcjadkmgaaDoor
open Go.RowKit
theorem gErrR : Tryd.prog.globalNamed "strconv.ErrRange" = some 5 := by kernel_rfl
theorem tyErrR : (Tryd.prog.globals[(5 : Nat)]?).map (·.type) = some 51 := by kernel_rfl
theorem errR_of {r : List (String × DataW Unit)} {W : World} (h : laidMet Tryd.prog (("strconv.ErrRange", Rows.laid_strconv_ErrRange) :: r) W) : ErrW W := by
  obtain ⟨a, s, hv, _⟩ := laid_sentinel h gErrR tyErrR Tryd.underlying51 rowErr Tryd.underlying129 Tryd.underlying131 rfl rfl Tryd.underlying9 (by kernel_rfl) (by kernel_rfl)
  have := World.var?_cell gErrR hv 0
  exact ⟨_, _, by simpa using this⟩
theorem ErrW.go {w w' : World} (h : ErrW w) (hb : Below w.heap.size w w') : ErrW w' := by
  obtain ⟨te, pe, h⟩ := h
  exact ⟨te, pe, (hb.cell (p := ⟨5, 0, none⟩) (cell_lt h)).trans h⟩
/-- What the laws that read have listed. -/
def Tabs5 (w : World) : Prop := Tabs w ∧ ErrV w ∧ ErrW w
theorem Tabs5.go {w w' : World} (h : Tabs5 w) (hb : Below w.heap.size w w') : Tabs5 w' := ⟨h.1.go hb, h.2.1.go hb, h.2.2.go hb⟩
theorem Tabs5.ev {w : World} (h : Tabs5 w) : EV w.heap.size w := fun w' hb => ⟨h.2.1.go hb, h.2.2.go hb⟩
theorem tabs5_of {x : String × DataW Unit} {W : World} (h : laidMet Tryd.prog (x :: ("math/bits.deBruijn64tab", Rows.laid_math_bits_deBruijn64tab) :: ("internal/strconv.uint64pow10", Rows.laid_internal_strconv_uint64pow10) :: ("strconv.ErrRange", Rows.laid_strconv_ErrRange) :: [("strconv.ErrSyntax", Rows.laid_strconv_ErrSyntax)]) W) : Tabs5 W :=
  ⟨tabs_of h, err_of h.tail.tail.tail.tail, errR_of h.tail.tail.tail⟩
/-- A right value's JSON, read. -/
theorem parse_js {a : Va} {J : ByteArray} (hJ : J = ⟨a.js.toArray⟩) (hR : a.R 12) (hW : a.W) : parseG J = (a, -1, 0) := by
  have e : J.data.toList.drop 0 = a.js ++ [] := by rw [hJ]; simp
  have h := val_js J a 12 12 0 [] hR hW (Nat.le_refl _) e (fun c hc => by simp at hc)
  have hs : J.size = a.js.length := by rw [hJ]; show a.js.toArray.size = _; simp
  unfold parseG
  rw [h]
  have hb : ¬ blk J (0 + a.js.length) < J.size := by have := blk_ge J (0 + a.js.length); omega
  simp only [if_neg hb]
theorem js_bytes (a : Va) : (⟨a.js.toArray⟩ : ByteArray).size = a.js.length := by show a.js.toArray.size = _; simp
set_option maxHeartbeats 1000000 in
set_option maxRecDepth 100000 in
theorem JsonBack.walk (W : World) (hT : Tabs5 W) (a : Va) (h : Hd) (H : Lies W (fun _ => True) a h) : Calls Tryd.prog 4 #[h.val] W (jends W) := by
  have HT := Lib.hid hT
  have HL := Lib.hid H
  have HW := Lib.hid (lies_W a _ h W H)
  clear hT H
  have HB0 := Lib.hid (BoxAt.start W h 25)
  unfold Hd.val
  go_enter Tryd.func4, Tryd.ntmps4
  go_wp2_with fail
  refine (awake_any _ (HT.out.1.go HB0.out.1)).mono ?_
  rintro e w1 ⟨rfl, hb1⟩
  have HB1 := Lib.hid (HB0.out.go hb1 (Nat.le_refl _))
  clear hb1
  have q0 := HB1.out.2.2 0 _ rfl
  have q1 := HB1.out.2.2 1 _ rfl
  have q2 := HB1.out.2.2 2 _ rfl
  have q3 := HB1.out.2.2 3 _ rfl
  have q4 := HB1.out.2.2 4 _ rfl
  have K := few_ref a _ h w1 (HL.out.below HB1.out.1 (Nat.le_refl _))
  unfold Hd.val at K
  have K := Lib.hid K
  go_wp2_with fail
  refine K.out.mono ?_
  rintro e w2 ⟨r, rfl, hr, hb2⟩
  clear K q0 q1 q2 q3 q4
  have HB2 := Lib.hid (HB1.out.go hb2 (Nat.le_refl _))
  clear hb2
  have q0 := HB2.out.2.2 0 _ rfl
  have q1 := HB2.out.2.2 1 _ rfl
  have q2 := HB2.out.2.2 2 _ rfl
  have q3 := HB2.out.2.2 3 _ rfl
  have q4 := HB2.out.2.2 4 _ rfl
  cases r
  · clear hr q0 q1 q2 q3 q4
    go_wp2_with fail
    refine (awake_any _ (HT.out.1.go HB2.out.1)).mono ?_
    rintro e w3 ⟨rfl, hb3⟩
    have HB3 := Lib.hid (HB2.out.go hb3 (Nat.le_refl _))
    clear hb3
    go_wp2_with fail
    go_ret
    exact ⟨rfl, HB3.out.1⟩
  obtain ⟨hsh, hcn⟩ := hr rfl
  have HSH := Lib.hid hsh
  have HCN := Lib.hid hcn
  clear hsh hcn hr
  have K3 := rightref a _ h w2 (HL.out.below HB2.out.1 (Nat.le_refl _)) HSH.out
  unfold Hd.val at K3
  have K3 := Lib.hid K3
  go_wp2_with fail
  refine K3.out.mono ?_
  rintro e w3 ⟨r, rfl, hr, hb3⟩
  clear K3 q0 q1 q2 q3 q4
  have HB3 := Lib.hid (HB2.out.go hb3 (Nat.le_refl _))
  clear hb3
  cases r
  · clear hr
    go_wp2_with fail
    refine (awake_any _ (HT.out.1.go HB3.out.1)).mono ?_
    rintro e w4 ⟨rfl, hb4⟩
    have HB4 := Lib.hid (HB3.out.go hb4 (Nat.le_refl _))
    clear hb4
    go_wp2_with fail
    go_ret
    exact ⟨rfl, HB4.out.1⟩
  have HR := Lib.hid (hr.1 rfl)
  clear hr
  have q0 := HB3.out.2.2 0 _ rfl
  have q1 := HB3.out.2.2 1 _ rfl
  have q2 := HB3.out.2.2 2 _ rfl
  have q3 := HB3.out.2.2 3 _ rfl
  have q4 := HB3.out.2.2 4 _ rfl
  obtain ⟨J, hJ⟩ : ∃ J : ByteArray, J = ⟨a.js.toArray⟩ := ⟨_, rfl⟩
  have hlen : J.size ≤ maxLen := by
    rw [hJ, js_bytes]
    have := js_len HR.out HSH.out
    have := HCN.out
    unfold maxLen
    omega
  have K2 := encode_yes a h w3 (HL.out.below HB3.out.1 (Nat.le_refl _)) HR.out HSH.out HCN.out (HT.out.1.go HB3.out.1)
  rw [← hJ] at K2
  unfold Hd.val at K2
  have K2 := Lib.hid K2
  have HJ := Lib.hid hJ
  have HLen := Lib.hid hlen
  clear hJ
  go_wp2_with fail
  refine K2.out.mono ?_
  rintro e w4 ⟨rfl, hb4⟩
  clear K2 q0 q1 q2 q3 q4
  have HB4 := Lib.hid (HB3.out.go hb4 (Nat.le_refl _))
  clear hb4
  by_cases hbig : 4000 < J.size
  · have hd : decide ((4000 : Int) < (J.size : Int)) = true := decide_eq_true (by omega)
    have KP := Lib.hid (parse_long J w4 hbig HLen.out)
    clear hbig
    go_wp2_with fail
    refine KP.out.mono ?_
    rintro e w5 ⟨rfl, hb5⟩
    have HB5 := Lib.hid (HB4.out.go hb5 (Nat.le_refl _))
    clear KP hb5
    go_wp2_with fail
    go_ret
    exact ⟨rfl, HB5.out.1.alloc (Nat.le_of_lt HB5.out.2.1) _⟩
  · have hd : decide ((4000 : Int) < (J.size : Int)) = false := decide_eq_false (by omega)
    have KP := Lib.hid (parse_ok J w4 (by omega) ((HT.out.go HB4.out.1).ev))
    have HPJ := Lib.hid (parse_js HJ.out HR.out HW.out)
    clear hbig
    go_wp2_with fail
    refine KP.out.mono ?_
    rintro e w5 ⟨g, rfl, hb5, hl5⟩
    rw [HPJ.out] at hl5 ⊢
    have HL5 := Lib.hid hl5
    have HB5 := Lib.hid (HB4.out.go hb5 (Nat.le_refl _))
    clear KP hb5 hl5
    have HB6 := Lib.hid (HB5.out.go ((Below.refl w5.heap.size w5).alloc (Nat.le_refl _) (Obj.cells #[.int .i64 g.k, .int .i64 g.n, .string g.s, .slice g.A g.la g.lc, .slice g.F g.lf g.fc] 25)) (Nat.le_refl _))
    have HX6 := Lib.hid (Bx.start w5 g 25)
    have HG6 := Lib.hid (HL5.out.below ((Below.refl w5.heap.size w5).alloc (Nat.le_refl _) (Obj.cells #[.int .i64 g.k, .int .i64 g.n, .string g.s, .slice g.A g.la g.lc, .slice g.F g.lf g.fc] 25)) (Nat.le_refl _))
    have K6 := same_ref a a _ _ h g _ (HL.out.below HB6.out.1 (Nat.le_refl _)) HG6.out
    unfold Hd.val at K6
    have K6 := Lib.hid K6
    have q0 := HB6.out.2.2 0 _ rfl
    have q1 := HB6.out.2.2 1 _ rfl
    have q2 := HB6.out.2.2 2 _ rfl
    have q3 := HB6.out.2.2 3 _ rfl
    have q4 := HB6.out.2.2 4 _ rfl
    have p0 := HX6.out.2 0 _ rfl
    have p1 := HX6.out.2 1 _ rfl
    have p2 := HX6.out.2 2 _ rfl
    have p3 := HX6.out.2 3 _ rfl
    have p4 := HX6.out.2 4 _ rfl
    go_wp2_with fail
    refine K6.out.mono ?_
    rintro e w6 ⟨r, rfl, hr, hb6⟩
    obtain rfl : r = true := hr.2 rfl
    have HB7 := Lib.hid (HB6.out.go hb6 (Nat.le_refl _))
    clear K6 hr hb6 q0 q1 q2 q3 q4 p0 p1 p2 p3 p4
    go_wp2_with fail
    go_ret
    exact ⟨rfl, HB7.out.1⟩
end Go.Proofs.YtbinmhcjadkmgaaDoor
