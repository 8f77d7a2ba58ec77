/- Several of the texts that this claim leans on, one behind the other. -/
import Derived.Test.YtbinmhcjadkmgaaDoorJoined1JsonBlanks
import Derived.Deep.QuietTactic
import Derived.BigQuiet
import Derived.Test.YtbinmhcjadkmgaaDoorJLaw1
import Derived.Test.YtbinmhcjadkmgaaDoorTSam
import Derived.Test.YtbinmhcjadkmgaaDoorTPlaces
import Derived.ProofKit
import Derived.OpenShut
import Derived.ShutString
import Derived.ChangeOld
import Derived.SliceStrings
/- cascade/json's reader: a value. -/
set_option linter.unusedVariables false
set_option linter.unusedSimpArgs false
namespace Go.Proofs.YtbinmhcjadkmgaaDoor
open Go.RowKit
theorem ext_none' {s : ByteArray} {p : Nat} (h : s.size ≤ p) : (s.extract p s.size).toList.isEmpty = true := by
  rw [Lib.toList_data, Lib.extract_data, List.drop_of_length_le (by rw [← Lib.size_eq]; exact h)]; simp
theorem ext_some' {s : ByteArray} {p : Nat} (h : p < s.size) : (s.extract p s.size).toList.isEmpty = false ∧ 0 < (s.extract p s.size).size := by
  have hz : (s.extract p s.size).size = s.size - p := by rw [ByteArray.size_extract]; omega
  refine ⟨?_, by omega⟩
  rw [Lib.toList_data]
  cases e : (s.extract p s.size).data.toList with
  | nil => have := Lib.size_eq (s.extract p s.size); rw [e, List.length_nil] at this; omega
  | cons x y => rfl
set_option maxHeartbeats 4000000 in
set_option maxRecDepth 100000 in
theorem value_end (R : Nat) (s : ByteArray) (a f : Nat) (lv b : Int) (w : World) (h : Rdr w R s a 0 b) (ha : a ≤ s.size) (hs : s.size ≤ 1000000) (hE : EV R w) (hl : s.size ≤ blk s a) :
    Calls Tryd.prog 33 #[.pointer (some ⟨R, 0, none⟩), .int .i64 lv] w fun e w' => VlR R s b (valG s f a) w e w' := by
  have HG : Hid (valG s f a = .no 4 (blk s a)) := Lib.hid (by cases f <;> (unfold valG; rw [if_pos hl]))
  have hR := h.lt
  have hbl0 := blk_le ha
  have HH := Lib.hid (show Rdr (w.alloc (Obj.cells #[.int .i64 0, .int .i64 0, .string { data := #[] }, .slice none 0 0, .slice none 0 0] 25)) R s a 0 b from h.below ((Below.refl _ _).alloc (Nat.le_refl _) _))
  have HEV := Lib.hid (show EV R (w.alloc (Obj.cells #[.int .i64 0, .int .i64 0, .string { data := #[] }, .slice none 0 0, .slice none 0 0] 25)) from hE.go ((Below.refl _ _).alloc (by omega) _))
  have HRow := Lib.hid (new_row w)
  have hQR : w.heap.size ≠ R := by omega
  have hQs : (w.alloc (Obj.cells #[.int .i64 0, .int .i64 0, .string { data := #[] }, .slice none 0 0, .slice none 0 0] 25)).heap.size = w.heap.size + 1 := by simp
  have HFROM := Lib.hid (show ∀ (a e b : Int) w1, RdP R (w.alloc (Obj.cells #[.int .i64 0, .int .i64 0, .string { data := #[] }, .slice none 0 0, .slice none 0 0] 25)) s a e b w1 → RdP R w s a e b w1 from fun a e b w1 h => h.from hR)
  obtain ⟨p, hp⟩ : ∃ p, blk s a = p := ⟨_, rfl⟩
  have HP := Lib.hid hp
  have hbl : p ≤ s.size := by rw [← hp]; exact hbl0
  have hpp : blk s p = p := by rw [← hp]; exact blk_idem s a
  have HPP := Lib.hid hpp
  clear h hE hp hpp hbl0
  go_enter Tryd.func33, Tryd.ntmps33
  go_upto_region 1 with fail
  generalize w.alloc (Obj.cells #[.int .i64 0, .int .i64 0, .string { data := #[] }, .slice none 0 0, .slice none 0 0] 25) = w0 at HH HRow HFROM HEV hQs ⊢
  have K1 := Lib.hid (blanks_any R s a 0 b w0 HH.out ha hs)
  rw [HP.out] at K1
  go_wp2_with fail
  refine K1.out.mono ?_
  rintro e1 w1 ⟨rfl, h1⟩
  have H1 := Lib.hid h1
  have c0 := h1.1.c0
  have c1 := h1.1.c1
  clear h1 K1
  go_wp2_with fail
  go_quiet (fail)
  have H2 := Lib.hid (H1.out.drewN nq)
  have c1 : (w1.drewN nq).cell? ⟨R, 1, none⟩ = some (.int .i64 p) := c1
  generalize w1.drewN nq = w2 at H2 c1 ⊢
  clear c0 H1
  have hl2 : s.size ≤ p := by rw [← HP.out]; exact hl
  rw [HP.out] at HG
  have hem := ext_none' hl2
  clear hl hl2
  go_wp2_with fail
  refine (fail_first R s p b p 4 w2 H2.out.1).mono ?_
  rintro e3 w3 ⟨rfl, h3⟩
  have H3 := Lib.hid (H2.out.trans h3)
  clear h3 c1
  have HR9 := Lib.hid (kept_row H3.out HRow.out hQR)
  have z0 := HR9.out.cell (show 0 < 5 by decide)
  have z1 := HR9.out.cell (show 1 < 5 by decide)
  have z2 := HR9.out.cell (show 2 < 5 by decide)
  have z3 := HR9.out.cell (show 3 < 5 by decide)
  have z4 := HR9.out.cell (show 4 < 5 by decide)
  have g0 := HR9.out.frozen 0
  have g1 := HR9.out.frozen 1
  have g2 := HR9.out.frozen 2
  have g3 := HR9.out.frozen 3
  have g4 := HR9.out.frozen 4
  simp only [hdAt, Hd.cells, List.getD_cons_succ, List.getD_cons_zero] at z0 z1 z2 z3 z4
  go_wp2_with fail
  refine bodyPost_ret (v := .agg #[.int .i64 0, .int .i64 0, .string ByteArray.empty, .slice none 0 0, .slice none 0 0]) (by simp [results, Tryd.results33, go_sem, z0, z1, z2, z3, z4]; try rfl) rfl ?_
  exact VlR.bad (u := ⟨0, 0, ByteArray.empty, none, 0, 0, none, 0, 0⟩) HG.out (by decide) hbl (HFROM.out _ _ _ _ H3.out) hR (Nat.le_refl _)
set_option maxHeartbeats 4000000 in
set_option maxRecDepth 100000 in
theorem value_deep (R : Nat) (s : ByteArray) (a f : Nat) (lv b : Int) (w : World) (h : Rdr w R s a 0 b) (ha : a ≤ s.size) (hs : s.size ≤ 1000000) (hE : EV R w) (hl : blk s a < s.size) (hlv : 12 < lv) :
    Calls Tryd.prog 33 #[.pointer (some ⟨R, 0, none⟩), .int .i64 lv] w fun e w' => VlR R s b (valG s 0 a) w e w' := by
  have HG : Hid (valG s 0 a = .no 5 (blk s a)) := Lib.hid (by unfold valG; rw [if_neg (by omega)])
  have hR := h.lt
  have hbl0 := blk_le ha
  have HH := Lib.hid (show Rdr (w.alloc (Obj.cells #[.int .i64 0, .int .i64 0, .string { data := #[] }, .slice none 0 0, .slice none 0 0] 25)) R s a 0 b from h.below ((Below.refl _ _).alloc (Nat.le_refl _) _))
  have HEV := Lib.hid (show EV R (w.alloc (Obj.cells #[.int .i64 0, .int .i64 0, .string { data := #[] }, .slice none 0 0, .slice none 0 0] 25)) from hE.go ((Below.refl _ _).alloc (by omega) _))
  have HRow := Lib.hid (new_row w)
  have hQR : w.heap.size ≠ R := by omega
  have hQs : (w.alloc (Obj.cells #[.int .i64 0, .int .i64 0, .string { data := #[] }, .slice none 0 0, .slice none 0 0] 25)).heap.size = w.heap.size + 1 := by simp
  have HFROM := Lib.hid (show ∀ (a e b : Int) w1, RdP R (w.alloc (Obj.cells #[.int .i64 0, .int .i64 0, .string { data := #[] }, .slice none 0 0, .slice none 0 0] 25)) s a e b w1 → RdP R w s a e b w1 from fun a e b w1 h => h.from hR)
  obtain ⟨p, hp⟩ : ∃ p, blk s a = p := ⟨_, rfl⟩
  have HP := Lib.hid hp
  have hbl : p ≤ s.size := by rw [← hp]; exact hbl0
  have hpp : blk s p = p := by rw [← hp]; exact blk_idem s a
  have HPP := Lib.hid hpp
  clear h hE hp hpp hbl0
  go_enter Tryd.func33, Tryd.ntmps33
  go_upto_region 1 with fail
  generalize w.alloc (Obj.cells #[.int .i64 0, .int .i64 0, .string { data := #[] }, .slice none 0 0, .slice none 0 0] 25) = w0 at HH HRow HFROM HEV hQs ⊢
  have K1 := Lib.hid (blanks_any R s a 0 b w0 HH.out ha hs)
  rw [HP.out] at K1
  go_wp2_with fail
  refine K1.out.mono ?_
  rintro e1 w1 ⟨rfl, h1⟩
  have H1 := Lib.hid h1
  have c0 := h1.1.c0
  have c1 := h1.1.c1
  clear h1 K1
  go_wp2_with fail
  go_quiet (fail)
  have H2 := Lib.hid (H1.out.drewN nq)
  have c1 : (w1.drewN nq).cell? ⟨R, 1, none⟩ = some (.int .i64 p) := c1
  generalize w1.drewN nq = w2 at H2 c1 ⊢
  clear c0 H1
  have hl2 : p < s.size := by rw [← HP.out]; exact hl
  rw [HP.out] at HG
  obtain ⟨hem, hpos⟩ := ext_some' hl2
  clear hl hl2
  go_wp2_with fail
  refine (fail_first R s p b p 5 w2 H2.out.1).mono ?_
  rintro e3 w3 ⟨rfl, h3⟩
  have H3 := Lib.hid (H2.out.trans h3)
  clear h3 c1
  have HR9 := Lib.hid (kept_row H3.out HRow.out hQR)
  have z0 := HR9.out.cell (show 0 < 5 by decide)
  have z1 := HR9.out.cell (show 1 < 5 by decide)
  have z2 := HR9.out.cell (show 2 < 5 by decide)
  have z3 := HR9.out.cell (show 3 < 5 by decide)
  have z4 := HR9.out.cell (show 4 < 5 by decide)
  have g0 := HR9.out.frozen 0
  have g1 := HR9.out.frozen 1
  have g2 := HR9.out.frozen 2
  have g3 := HR9.out.frozen 3
  have g4 := HR9.out.frozen 4
  simp only [hdAt, Hd.cells, List.getD_cons_succ, List.getD_cons_zero] at z0 z1 z2 z3 z4
  go_wp2_with fail
  refine bodyPost_ret (v := .agg #[.int .i64 0, .int .i64 0, .string ByteArray.empty, .slice none 0 0, .slice none 0 0]) (by simp [results, Tryd.results33, go_sem, z0, z1, z2, z3, z4]; try rfl) rfl ?_
  exact VlR.bad (u := ⟨0, 0, ByteArray.empty, none, 0, 0, none, 0, 0⟩) HG.out (by decide) hbl (HFROM.out _ _ _ _ H3.out) hR (Nat.le_refl _)
theorem lies_txt (w : World) (S : Nat → Prop) (t : ByteArray) (ht : t.size ≤ maxLen) : Lies w S (.mk 3 0 t [] [] []) ⟨3, 0, t, none, 0, 0, none, 0, 0⟩ := by
  unfold Lies
  exact ⟨⟨rfl, rfl, rfl, rfl, rfl, rfl⟩, ⟨by decide, by decide, ht, by simp, by decide, by decide, Nat.le_refl _, Nat.le_refl _⟩, ⟨[], fun h => by simp at h, by unfold LiesL; rfl⟩, ⟨[], fun h => by simp at h, by unfold LiesL; rfl⟩⟩
theorem VlR.ok {R Q : Nat} {s : ByteArray} {b : Int} {g : Got} {w w1 : World} {a : Va} {j : Nat} {u : Hd} (hg : g = .ok a j) (h : RdP R w s j 0 b w1) (hR : R < w.heap.size) (hQ : w.heap.size ≤ Q) (hl : Lies (res5 w1 Q u) (fun x => w.heap.size ≤ x) a u) :
    VlR R s b g w (.returned (.agg #[.int .i64 u.k, .int .i64 u.n, .string u.s, .slice u.A u.la u.lc, .slice u.F u.lf u.fc])) (res5 w1 Q u) := ⟨u, rfl, .inl ⟨a, j, hg, h.res hR hQ, hl⟩⟩
/-- A value that was read is the result. -/
theorem VlR.lift {R Q : Nat} {s : ByteArray} {b : Int} {g : Got} {w w2 w3 : World} {h' : Hd} (hfrom : ∀ (a e b : Int) w3, RdP R w2 s a e b w3 → RdP R w s a e b w3) (hR : R < w.heap.size) (hQ : w.heap.size ≤ Q) (hQ2 : Q < w2.heap.size) (hs : w.heap.size ≤ w2.heap.size)
    (hor : (∃ (a : Va) (j : Nat), g = .ok a j ∧ RdP R w2 s j 0 b w3 ∧ Lies w3 (fun x => w2.heap.size ≤ x) a h') ∨ (∃ (er : Int) (bd : Nat), g = .no er bd ∧ er ≠ 0 ∧ ∃ a' : Nat, a' ≤ s.size ∧ RdP R w2 s a' er bd w3)) :
    VlR R s b g w (.returned (.agg #[.int .i64 h'.k, .int .i64 h'.n, .string h'.s, .slice h'.A h'.la h'.lc, .slice h'.F h'.lf h'.fc])) (res5 w3 Q h') := by
  rcases hor with ⟨a, j, hg, hr, hl⟩ | ⟨er, bd, hg, h0, a', ha, hr⟩
  · refine VlR.ok hg (hfrom _ _ _ _ hr) hR hQ ?_
    exact Lies.keep (fun p hp _ => World.cell?_of_block (res5_set p.block (by have hp' : w2.heap.size ≤ p.block := hp; omega))) (fun b hb _ => by have hb' : w2.heap.size ≤ b := hb; show w.heap.size ≤ b; omega) a h' hl
  · exact VlR.bad hg h0 ha (hfrom _ _ _ _ hr) hR hQ
theorem RowR.lift {R Q : Nat} {s : ByteArray} {b : Int} {g : Got} {mk : Option Addr → Nat → Nat → Hd} {w w2 w3 : World} {A : Option Addr} {n c : Nat} (hfrom : ∀ (a e b : Int) w3, RdP R w2 s a e b w3 → RdP R w s a e b w3) (hR : R < w.heap.size) (hQ : w.heap.size ≤ Q) (hQ2 : Q < w2.heap.size) (hs : w.heap.size ≤ w2.heap.size)
    (hor : (∃ (a : Va) (j : Nat), g = .ok a j ∧ RdP R w2 s (j : Nat) 0 b w3 ∧ ∀ wf, (∀ k, k < w3.heap.size → w2.heap.size ≤ k → wf.heap[k]? = w3.heap[k]?) → Lies wf (fun x => w2.heap.size ≤ x) a (mk A n c)) ∨
     (∃ (er : Int) (bd : Nat), g = .no er bd ∧ er ≠ 0 ∧ ∃ a' : Nat, a' ≤ s.size ∧ RdP R w2 s (a' : Nat) er (bd : Nat) w3)) :
    VlR R s b g w (.returned (.agg #[.int .i64 (mk A n c).k, .int .i64 (mk A n c).n, .string (mk A n c).s, .slice (mk A n c).A (mk A n c).la (mk A n c).lc, .slice (mk A n c).F (mk A n c).lf (mk A n c).fc])) (res5 w3 Q (mk A n c)) := by
  rcases hor with ⟨a, j, hg, hr, hl⟩ | ⟨er, bd, hg, h0, a', ha, hr⟩
  · refine VlR.ok hg (hfrom _ _ _ _ hr) hR hQ ?_
    exact Lies.keep (fun _ _ _ => rfl) (fun b hb _ => by have hb' : w2.heap.size ≤ b := hb; show w.heap.size ≤ b; omega) a _ (hl _ (fun k h1 h2 => res5_set k (by omega)))
  · exact VlR.bad hg h0 ha (hfrom _ _ _ _ hr) hR hQ
theorem num_wide {s : ByteArray} {p j : Nat} {n : Int} (h : numG s p = .ok (leafV 2 n) j) : -9223372036854775808 ≤ n ∧ n ≤ 9223372036854775807 := by
  unfold numG at h
  split at h
  · cases h
  split at h
  · cases h
  split at h
  · cases h
  · rename_i hd
    injection h with h1 _
    injection h1 with _ h2
    rw [← h2]
    split <;> omega
set_option maxHeartbeats 4000000 in
set_option maxRecDepth 100000 in
theorem value_go (R : Nat) (s : ByteArray) (a f : Nat) (lv b : Int) (w : World) (h : Rdr w R s a 0 b) (ha : a ≤ s.size) (hs : s.size ≤ 1000000) (hE : EV R w) (hl : blk s a < s.size) (hlv : lv ≤ 12) (hwr : IntKind.i64.wrap (lv + 1) = lv + 1)
    (hV : ∀ w2 p, p ≤ s.size → Rdr w2 R s (p : Nat) 0 b → EV R w2 → Calls Tryd.prog 33 #[.pointer (some ⟨R, 0, none⟩), .int .i64 (lv + 1)] w2 fun e w' => VlR R s b (valG s f p) w2 e w') :
    Calls Tryd.prog 33 #[.pointer (some ⟨R, 0, none⟩), .int .i64 lv] w fun e w' => VlR R s b (valG s (f + 1) a) w e w' := by
  have HV := Lib.hid hV
  clear hV
  have hR := h.lt
  have hbl0 := blk_le ha
  have HH := Lib.hid (show Rdr (w.alloc (Obj.cells #[.int .i64 0, .int .i64 0, .string { data := #[] }, .slice none 0 0, .slice none 0 0] 25)) R s a 0 b from h.below ((Below.refl _ _).alloc (Nat.le_refl _) _))
  have HEV := Lib.hid (show EV R (w.alloc (Obj.cells #[.int .i64 0, .int .i64 0, .string { data := #[] }, .slice none 0 0, .slice none 0 0] 25)) from hE.go ((Below.refl _ _).alloc (by omega) _))
  have HRow := Lib.hid (new_row w)
  have hQR : w.heap.size ≠ R := by omega
  have hQs : (w.alloc (Obj.cells #[.int .i64 0, .int .i64 0, .string { data := #[] }, .slice none 0 0, .slice none 0 0] 25)).heap.size = w.heap.size + 1 := by simp
  have HFROM := Lib.hid (show ∀ (a e b : Int) w1, RdP R (w.alloc (Obj.cells #[.int .i64 0, .int .i64 0, .string { data := #[] }, .slice none 0 0, .slice none 0 0] 25)) s a e b w1 → RdP R w s a e b w1 from fun a e b w1 h => h.from hR)
  obtain ⟨p, hp⟩ : ∃ p, blk s a = p := ⟨_, rfl⟩
  have HP := Lib.hid hp
  have hbl : p ≤ s.size := by rw [← hp]; exact hbl0
  have hpp : blk s p = p := by rw [← hp]; exact blk_idem s a
  have HPP := Lib.hid hpp
  clear h hE hp hpp hbl0
  go_enter Tryd.func33, Tryd.ntmps33
  go_upto_region 1 with fail
  generalize w.alloc (Obj.cells #[.int .i64 0, .int .i64 0, .string { data := #[] }, .slice none 0 0, .slice none 0 0] 25) = w0 at HH HRow HFROM HEV hQs ⊢
  have K1 := Lib.hid (blanks_any R s a 0 b w0 HH.out ha hs)
  rw [HP.out] at K1
  go_wp2_with fail
  refine K1.out.mono ?_
  rintro e1 w1 ⟨rfl, h1⟩
  have H1 := Lib.hid h1
  have c0 := h1.1.c0
  have c1 := h1.1.c1
  clear h1 K1
  go_wp2_with fail
  go_quiet (fail)
  have H2 := Lib.hid (H1.out.drewN nq)
  have c1 : (w1.drewN nq).cell? ⟨R, 1, none⟩ = some (.int .i64 p) := c1
  generalize w1.drewN nq = w2 at H2 c1 ⊢
  clear c0 H1
  have hl2 : p < s.size := by rw [← HP.out]; exact hl
  obtain ⟨hem, hpos⟩ := ext_some' hl2
  clear hl
  go_upto_region 10 with fail
  have hidx : (s.extract p s.size)[0].toNat = (s.get! p).toNat := ext_first hl2 (Nat.le_refl _) hpos
  rw [hidx]
  clear hidx hem hpos
  obtain ⟨C, hC⟩ : ∃ C, s.get! p = C := ⟨_, rfl⟩
  have HC := Lib.hid hC
  rw [hC]
  have HG0 : Hid (valG s (f + 1) a = if C.toNat = 34 then txtG s p else if C.toNat = 45 ∨ isDg C = true then numG s p else if C.toNat = 91 then listG (valG s f) s p else if C.toNat = 123 then objG (valG s f) s p else wordG s p) := Lib.hid (by unfold valG; rw [HP.out, if_neg (by omega), HC.out])
  have HD2 := Lib.hid (fun w => digit_any C w)
  obtain ⟨dg, hdg⟩ : ∃ dg, isDg C = dg := ⟨_, rfl⟩
  rw [hdg] at HG0 HD2
  have HE2 := Lib.hid (HEV.out.rd H2.out)
  have hQ2 : w.heap.size < w2.heap.size := by have := H2.out.2.size; omega
  have hs2 : w.heap.size ≤ w2.heap.size := Nat.le_of_lt hQ2
  have HF2 := Lib.hid (show ∀ (a e b : Int) w3, RdP R w2 s a e b w3 → RdP R w s a e b w3 from fun a' e' b' w3 h3 => HFROM.out _ _ _ _ (H2.out.trans h3))
  have hC256 : C.toNat < 256 := C.toNat_lt
  have HSG := Lib.hid (show ∀ x : UInt8, C = x → sgn s p ⟨#[x]⟩ = true from fun x e => by
    unfold sgn
    rw [HPP.out, pre_drop, at_cons hl2, HC.out, e]
    simp [List.isPrefixOf])
  clear hC hl2 hdg
  by_cases d34 : C.toNat = 34
  · have e34 : ((C.toNat : Int) == 34) = true := by rw [d34]; rfl
    have HG : Hid (valG s (f + 1) a = txtG s p) := Lib.hid (by rw [HG0.out, if_pos d34])
    have KQ := Lib.hid (quoted_any R s p b w2 H2.out.1 hbl hs HE2.out)
    have hul := @uq_len s p
    clear d34 HG0 c1
    go_wp2_with fail
    refine KQ.out.mono ?_
    rintro e3 w3 h3
    have HB : Hid (∃ (t : ByteArray), e3 = .returned (.string t) ∧ (∃ (a' er : Int) (bd : Int), RdP R w2 s a' er bd w3) ∧ VlR R s b (txtG s p) w (.returned (.agg #[.int .i64 3, .int .i64 0, .string t, .slice none 0 0, .slice none 0 0])) (res5 w3 w.heap.size ⟨3, 0, t, none, 0, 0, none, 0, 0⟩)) := Lib.hid (by
      rcases h3 with ⟨q1, q2, q3⟩ | ⟨q1, q2, q3⟩
      · refine ⟨_, q2, ⟨_, _, _, q3⟩, VlR.ok (j := p + (uq s p).2.1) (by unfold txtG; rw [if_pos q1]) (HF2.out _ _ _ _ q3) hR (Nat.le_refl _) (lies_txt _ _ _ ?_)⟩
        show (uq s p).1.toArray.size ≤ maxLen
        unfold maxLen
        have : (uq s p).1.toArray.size = (uq s p).1.length := by simp
        omega
      · exact ⟨_, q2, ⟨_, _, _, q3⟩, VlR.bad (u := ⟨3, 0, ByteArray.empty, none, 0, 0, none, 0, 0⟩) (er := ((uq s p).2.2 : Nat)) (bd := p + (uq s p).2.1) (a' := p) (by unfold txtG; rw [if_neg q1]) (by omega) hbl (HF2.out _ _ _ _ q3) hR (Nat.le_refl _)⟩)
    obtain ⟨t, rfl, ⟨a', er, bd, hr⟩, hvl⟩ := HB.out
    have HVL := Lib.hid hvl
    have H3 := Lib.hid (H2.out.trans hr)
    clear h3 HB KQ hr hvl hul
    have HR9 := Lib.hid (kept_row H3.out HRow.out hQR)
    have z0 := HR9.out.cell (show 0 < 5 by decide)
    have z1 := HR9.out.cell (show 1 < 5 by decide)
    have z2 := HR9.out.cell (show 2 < 5 by decide)
    have z3 := HR9.out.cell (show 3 < 5 by decide)
    have z4 := HR9.out.cell (show 4 < 5 by decide)
    have g0 := HR9.out.frozen 0
    have g1 := HR9.out.frozen 1
    have g2 := HR9.out.frozen 2
    have g3 := HR9.out.frozen 3
    have g4 := HR9.out.frozen 4
    simp only [hdAt, Hd.cells, List.getD_cons_succ, List.getD_cons_zero] at z0 z1 z2 z3 z4
    go_wp2_with fail
    refine bodyPost_ret (v := .agg #[.int .i64 3, .int .i64 0, .string t, .slice none 0 0, .slice none 0 0]) (by simp [results, Tryd.results33, go_sem, z0, z1, z2, z3, z4]; try rfl) rfl ?_
    rw [HG.out]; exact HVL.out
  have e34 : ((C.toNat : Int) == 34) = false := by simp; omega
  by_cases d45 : C.toNat = 45
  · have e45 : ((C.toNat : Int) == 45) = true := by rw [d45]; rfl
    have HDD := Lib.hid (show C.toNat = 45 ∨ dg = true from .inl d45)
    clear d45
    have HG : Hid (valG s (f + 1) a = numG s p) := Lib.hid (by rw [HG0.out, if_neg d34, if_pos HDD.out])
    have KN := Lib.hid (fun w3 (h : RdP R w2 s p 0 b w3) => number_any R s p b w3 h.1 hbl hs (HE2.out.rd h))
    have HGI := Lib.hid (num_in hbl)
    clear HG0 c1 d34 HDD
    go_wp2_with fail
    refine (KN.out _ (RdP.start H2.out.1)).mono ?_
    rintro e3 w3 ⟨n, rfl, hn⟩
    have HB : Hid ((∃ (a' er : Int) (bd : Int), RdP R w2 s a' er bd w3) ∧ VlR R s b (numG s p) w (.returned (.agg #[.int .i64 2, .int .i64 n, .string ByteArray.empty, .slice none 0 0, .slice none 0 0])) (res5 w3 w.heap.size ⟨2, n, ByteArray.empty, none, 0, 0, none, 0, 0⟩)) := Lib.hid (by
      have hgi := HGI.out
      rcases hn with ⟨j, q1, q2⟩ | ⟨er, bd, q1, a', q2, q3⟩
      · exact ⟨⟨_, _, _, q2⟩, VlR.leaf q1 (HF2.out _ _ _ _ q2) hR (Nat.le_refl _) (by decide) (num_wide q1)⟩
      · rw [q1] at hgi
        exact ⟨⟨_, _, _, q3⟩, VlR.bad (u := ⟨2, n, ByteArray.empty, none, 0, 0, none, 0, 0⟩) q1 hgi.1 q2 (HF2.out _ _ _ _ q3) hR (Nat.le_refl _)⟩)
    obtain ⟨⟨a', er, bd, hr⟩, hvl⟩ := HB.out
    have HVL := Lib.hid hvl
    have H3 := Lib.hid (H2.out.trans hr)
    clear hn HB KN hr hvl HGI
    have HR9 := Lib.hid (kept_row H3.out HRow.out hQR)
    have z0 := HR9.out.cell (show 0 < 5 by decide)
    have z1 := HR9.out.cell (show 1 < 5 by decide)
    have z2 := HR9.out.cell (show 2 < 5 by decide)
    have z3 := HR9.out.cell (show 3 < 5 by decide)
    have z4 := HR9.out.cell (show 4 < 5 by decide)
    have g0 := HR9.out.frozen 0
    have g1 := HR9.out.frozen 1
    have g2 := HR9.out.frozen 2
    have g3 := HR9.out.frozen 3
    have g4 := HR9.out.frozen 4
    simp only [hdAt, Hd.cells, List.getD_cons_succ, List.getD_cons_zero] at z0 z1 z2 z3 z4
    go_wp2_with fail
    refine bodyPost_ret (v := .agg #[.int .i64 2, .int .i64 n, .string ByteArray.empty, .slice none 0 0, .slice none 0 0]) (by simp [results, Tryd.results33, go_sem, z0, z1, z2, z3, z4]; try rfl) rfl ?_
    rw [HG.out]; exact HVL.out
  have e45 : ((C.toNat : Int) == 45) = false := by simp; omega
  cases dg
  case true =>
    have HDD := Lib.hid (show C.toNat = 45 ∨ true = true from .inr rfl)
    have HG : Hid (valG s (f + 1) a = numG s p) := Lib.hid (by rw [HG0.out, if_neg d34, if_pos HDD.out])
    have KN := Lib.hid (fun w3 (h : RdP R w2 s p 0 b w3) => number_any R s p b w3 h.1 hbl hs (HE2.out.rd h))
    have HGI := Lib.hid (num_in hbl)
    clear HG0 c1 d34 HDD d45
    go_wp2_with fail
    refine (HD2.out _).mono ?_
    rintro e9 w9 ⟨rfl, h9⟩
    have h9 := h9.symm
    subst h9
    go_wp2_with fail
    refine (KN.out _ (RdP.start H2.out.1)).mono ?_
    rintro e3 w3 ⟨n, rfl, hn⟩
    have HB : Hid ((∃ (a' er : Int) (bd : Int), RdP R w2 s a' er bd w3) ∧ VlR R s b (numG s p) w (.returned (.agg #[.int .i64 2, .int .i64 n, .string ByteArray.empty, .slice none 0 0, .slice none 0 0])) (res5 w3 w.heap.size ⟨2, n, ByteArray.empty, none, 0, 0, none, 0, 0⟩)) := Lib.hid (by
      have hgi := HGI.out
      rcases hn with ⟨j, q1, q2⟩ | ⟨er, bd, q1, a', q2, q3⟩
      · exact ⟨⟨_, _, _, q2⟩, VlR.leaf q1 (HF2.out _ _ _ _ q2) hR (Nat.le_refl _) (by decide) (num_wide q1)⟩
      · rw [q1] at hgi
        exact ⟨⟨_, _, _, q3⟩, VlR.bad (u := ⟨2, n, ByteArray.empty, none, 0, 0, none, 0, 0⟩) q1 hgi.1 q2 (HF2.out _ _ _ _ q3) hR (Nat.le_refl _)⟩)
    obtain ⟨⟨a', er, bd, hr⟩, hvl⟩ := HB.out
    have HVL := Lib.hid hvl
    have H3 := Lib.hid (H2.out.trans hr)
    clear hn HB KN hr hvl HGI
    have HR9 := Lib.hid (kept_row H3.out HRow.out hQR)
    have z0 := HR9.out.cell (show 0 < 5 by decide)
    have z1 := HR9.out.cell (show 1 < 5 by decide)
    have z2 := HR9.out.cell (show 2 < 5 by decide)
    have z3 := HR9.out.cell (show 3 < 5 by decide)
    have z4 := HR9.out.cell (show 4 < 5 by decide)
    have g0 := HR9.out.frozen 0
    have g1 := HR9.out.frozen 1
    have g2 := HR9.out.frozen 2
    have g3 := HR9.out.frozen 3
    have g4 := HR9.out.frozen 4
    simp only [hdAt, Hd.cells, List.getD_cons_succ, List.getD_cons_zero] at z0 z1 z2 z3 z4
    go_wp2_with fail
    refine bodyPost_ret (v := .agg #[.int .i64 2, .int .i64 n, .string ByteArray.empty, .slice none 0 0, .slice none 0 0]) (by simp [results, Tryd.results33, go_sem, z0, z1, z2, z3, z4]; try rfl) rfl ?_
    rw [HG.out]; exact HVL.out
  by_cases d91 : C.toNat = 91
  · have e91 : ((C.toNat : Int) == 91) = true := by rw [d91]; rfl
    have HG : Hid (valG s (f + 1) a = listG (valG s f) s p) := Lib.hid (by rw [HG0.out, if_neg d34, if_neg (fun h => by rcases h with h | h; exact d45 h; cases h), if_pos d91])
    have KL := Lib.hid (fun w3 (h : RdP R w2 s p 0 b w3) => list_any R p s lv b (valG s f) w3 hwr h.1 (HE2.out.rd h) hs hbl HPP.out (HSG.out 91 (UInt8.toNat_inj.1 d91)) (val_in s f) HV.out)
    clear HG0 c1 d91 d34 d45
    go_wp2_with fail
    refine (HD2.out _).mono ?_
    rintro e9 w9 ⟨rfl, h9⟩
    have h9 := h9.symm
    subst h9
    go_wp2_with fail
    refine (KL.out _ (RdP.start H2.out.1)).mono ?_
    rintro e3 w3 ⟨A, n, c, rfl, hor⟩
    have HVL := Lib.hid (RowR.lift (Q := w.heap.size) HF2.out hR (Nat.le_refl _) hQ2 hs2 hor)
    have HB : Hid (∃ (a' er : Int) (bd : Int), RdP R w2 s a' er bd w3) := Lib.hid (by
      rcases hor with ⟨_, _, _, q, _⟩ | ⟨_, _, _, _, _, _, q⟩
      · exact ⟨_, _, _, q⟩
      · exact ⟨_, _, _, q⟩)
    obtain ⟨a', er, bd, hr⟩ := HB.out
    have H3 := Lib.hid (H2.out.trans hr)
    clear hor HB KL hr
    have HR9 := Lib.hid (kept_row H3.out HRow.out hQR)
    have z0 := HR9.out.cell (show 0 < 5 by decide)
    have z1 := HR9.out.cell (show 1 < 5 by decide)
    have z2 := HR9.out.cell (show 2 < 5 by decide)
    have z3 := HR9.out.cell (show 3 < 5 by decide)
    have z4 := HR9.out.cell (show 4 < 5 by decide)
    have g0 := HR9.out.frozen 0
    have g1 := HR9.out.frozen 1
    have g2 := HR9.out.frozen 2
    have g3 := HR9.out.frozen 3
    have g4 := HR9.out.frozen 4
    simp only [hdAt, Hd.cells, List.getD_cons_succ, List.getD_cons_zero] at z0 z1 z2 z3 z4
    go_wp2_with fail
    refine bodyPost_ret (v := .agg #[.int .i64 4, .int .i64 0, .string ByteArray.empty, .slice A n c, .slice none 0 0]) (by simp [results, Tryd.results33, go_sem, z0, z1, z2, z3, z4]; try rfl) rfl ?_
    rw [HG.out]; exact HVL.out
  have e91 : ((C.toNat : Int) == 91) = false := by simp; omega
  by_cases d123 : C.toNat = 123
  · have e123 : ((C.toNat : Int) == 123) = true := by rw [d123]; rfl
    have HG : Hid (valG s (f + 1) a = objG (valG s f) s p) := Lib.hid (by rw [HG0.out, if_neg d34, if_neg (fun h => by rcases h with h | h; exact d45 h; cases h), if_neg d91, if_pos d123])
    have KL := Lib.hid (fun w3 (h : RdP R w2 s p 0 b w3) => object_any R p s lv b (valG s f) w3 hwr h.1 (HE2.out.rd h) hs hbl HPP.out (HSG.out 123 (UInt8.toNat_inj.1 d123)) (val_in s f) HV.out)
    clear HG0 c1 d123 d34 d45 d91
    go_wp2_with fail
    refine (HD2.out _).mono ?_
    rintro e9 w9 ⟨rfl, h9⟩
    have h9 := h9.symm
    subst h9
    go_wp2_with fail
    refine (KL.out _ (RdP.start H2.out.1)).mono ?_
    rintro e3 w3 ⟨A, n, c, rfl, hor⟩
    have HVL := Lib.hid (RowR.lift (Q := w.heap.size) HF2.out hR (Nat.le_refl _) hQ2 hs2 hor)
    have HB : Hid (∃ (a' er : Int) (bd : Int), RdP R w2 s a' er bd w3) := Lib.hid (by
      rcases hor with ⟨_, _, _, q, _⟩ | ⟨_, _, _, _, _, _, q⟩
      · exact ⟨_, _, _, q⟩
      · exact ⟨_, _, _, q⟩)
    obtain ⟨a', er, bd, hr⟩ := HB.out
    have H3 := Lib.hid (H2.out.trans hr)
    clear hor HB KL hr
    have HR9 := Lib.hid (kept_row H3.out HRow.out hQR)
    have z0 := HR9.out.cell (show 0 < 5 by decide)
    have z1 := HR9.out.cell (show 1 < 5 by decide)
    have z2 := HR9.out.cell (show 2 < 5 by decide)
    have z3 := HR9.out.cell (show 3 < 5 by decide)
    have z4 := HR9.out.cell (show 4 < 5 by decide)
    have g0 := HR9.out.frozen 0
    have g1 := HR9.out.frozen 1
    have g2 := HR9.out.frozen 2
    have g3 := HR9.out.frozen 3
    have g4 := HR9.out.frozen 4
    simp only [hdAt, Hd.cells, List.getD_cons_succ, List.getD_cons_zero] at z0 z1 z2 z3 z4
    go_wp2_with fail
    refine bodyPost_ret (v := .agg #[.int .i64 5, .int .i64 0, .string ByteArray.empty, .slice none 0 0, .slice A n c]) (by simp [results, Tryd.results33, go_sem, z0, z1, z2, z3, z4]; try rfl) rfl ?_
    rw [HG.out]; exact HVL.out
  have e123 : ((C.toNat : Int) == 123) = false := by simp; omega
  have HG : Hid (valG s (f + 1) a = wordG s p) := Lib.hid (by rw [HG0.out, if_neg d34, if_neg (fun h => by rcases h with h | h; exact d45 h; cases h), if_neg d91, if_neg d123])
  have KW := Lib.hid (fun w3 (h : RdP R w2 s p 0 b w3) => word_any R s p b w3 h.1 hbl hs)
  clear HG0 c1 d34 d45 d91 d123
  go_wp2_with fail
  refine (HD2.out _).mono ?_
  rintro e9 w9 ⟨rfl, h9⟩
  have h9 := h9.symm
  subst h9
  go_wp2_with fail
  refine (KW.out _ (RdP.start H2.out.1)).mono ?_
  rintro e3 w3 ⟨h', rfl, hor⟩
  have HVL := Lib.hid (VlR.lift (Q := w.heap.size) HF2.out hR (Nat.le_refl _) hQ2 hs2 hor)
  have H3 : Hid (∃ (a' er : Int) (bd : Int), RdP R w2 s a' er bd w3) := Lib.hid (by
    rcases hor with ⟨_, _, _, q, _⟩ | ⟨_, _, _, _, _, _, q⟩
    · exact ⟨_, _, _, q⟩
    · exact ⟨_, _, _, q⟩)
  obtain ⟨a', er, bd, hr⟩ := H3.out
  have H4 := Lib.hid (H2.out.trans hr)
  clear hor H3 KW hr
  have HR9 := Lib.hid (kept_row H4.out HRow.out hQR)
  have z0 := HR9.out.cell (show 0 < 5 by decide)
  have z1 := HR9.out.cell (show 1 < 5 by decide)
  have z2 := HR9.out.cell (show 2 < 5 by decide)
  have z3 := HR9.out.cell (show 3 < 5 by decide)
  have z4 := HR9.out.cell (show 4 < 5 by decide)
  have g0 := HR9.out.frozen 0
  have g1 := HR9.out.frozen 1
  have g2 := HR9.out.frozen 2
  have g3 := HR9.out.frozen 3
  have g4 := HR9.out.frozen 4
  simp only [hdAt, Hd.cells, List.getD_cons_succ, List.getD_cons_zero] at z0 z1 z2 z3 z4
  go_wp2_with fail
  refine bodyPost_ret (v := .agg #[.int .i64 h'.k, .int .i64 h'.n, .string h'.s, .slice h'.A h'.la h'.lc, .slice h'.F h'.lf h'.fc]) (by simp [results, Tryd.results33, go_sem, z0, z1, z2, z3, z4]; try rfl) rfl ?_
  rw [HG.out]; exact HVL.out
end Go.Proofs.YtbinmhcjadkmgaaDoor

/- cascade/json's Read and Parse. -/
set_option linter.unusedVariables false
set_option linter.unusedSimpArgs false
namespace Go.Proofs.YtbinmhcjadkmgaaDoor
open Go.RowKit
theorem lv_wrap {lv : Int} (h1 : 1 ≤ lv) (h2 : lv ≤ 13) : IntKind.i64.wrap (lv + 1) = lv + 1 := by
  have : lv = 1 ∨ lv = 2 ∨ lv = 3 ∨ lv = 4 ∨ lv = 5 ∨ lv = 6 ∨ lv = 7 ∨ lv = 8 ∨ lv = 9 ∨ lv = 10 ∨ lv = 11 ∨ lv = 12 ∨ lv = 13 := by omega
  rcases this with h | h | h | h | h | h | h | h | h | h | h | h | h <;> subst h <;> rfl
theorem valG_end {s : ByteArray} {a : Nat} (h : s.size ≤ blk s a) : ∀ f, valG s f a = .no 4 (blk s a) := fun f => by cases f <;> (unfold valG; rw [if_pos h])
/-- A value, at every level. -/
theorem value_any (R : Nat) (s : ByteArray) (b : Int) (hs : s.size ≤ 1000000) : ∀ (f : Nat), f ≤ 12 → ∀ (a : Nat) (w : World), a ≤ s.size → Rdr w R s a 0 b → EV R w → Calls Tryd.prog 33 #[.pointer (some ⟨R, 0, none⟩), .int .i64 ((13 - f : Nat) : Int)] w fun e w' => VlR R s b (valG s f a) w e w'
  | 0, _, a, w, ha, h, hE => by
    by_cases hl : s.size ≤ blk s a
    · exact value_end R s a 0 _ b w h ha hs hE hl
    · exact value_deep R s a 0 _ b w h ha hs hE (by omega) (by decide)
  | f + 1, hf, a, w, ha, h, hE => by
    by_cases hl : s.size ≤ blk s a
    · exact value_end R s a (f + 1) _ b w h ha hs hE hl
    · have hw : (((13 - (f + 1) : Nat) : Int) + 1) = ((13 - f : Nat) : Int) := by omega
      exact value_go R s a f _ b w h ha hs hE (by omega) (by omega) (lv_wrap (by omega) (by omega)) (by
        intro w2 p hp h2 hE2
        rw [hw]
        exact value_any R s b hs f (by omega) p w2 hp h2 hE2)
/-- How what is read lies. -/
def ReadR (s : ByteArray) (w : World) (e : Ending) (w' : World) : Prop :=
  ∃ h' : Hd, e = .returned (.tuple #[.agg #[.int .i64 h'.k, .int .i64 h'.n, .string h'.s, .slice h'.A h'.la h'.lc, .slice h'.F h'.lf h'.fc], .int .i64 (parseG s).2.1, .int .i64 (parseG s).2.2]) ∧ Below w.heap.size w w' ∧ Lies w' (fun x => w.heap.size ≤ x) (parseG s).1 h'
/-- What the end does to what went wrong. -/
def endE (s : ByteArray) (a : Nat) (e : Int) : Int := if e ≠ 0 then e else if blk s a < s.size then 4 else 0
def endB (s : ByteArray) (a : Nat) (e b : Int) : Int := if e ≠ 0 then b else if blk s a < s.size then (blk s a : Int) else b
theorem end_any (R : Nat) (s : ByteArray) (a : Nat) (e b : Int) (w : World) (h : Rdr w R s a e b) (ha : a ≤ s.size) (hs : s.size ≤ 1000000) : Calls Tryd.prog 34 #[.pointer (some ⟨R, 0, none⟩)] w fun e' w' => e' = .returned (.tuple #[]) ∧ RdP R w s (blk s a) (endE s a e) (endB s a e b) w' := by
  by_cases he : e = 0
  · subst he
    by_cases hl : blk s a < s.size
    · have e1 : endE s a 0 = 4 := by unfold endE; rw [if_neg (by simp), if_pos hl]
      have e2 : endB s a 0 b = (blk s a : Int) := by unfold endB; rw [if_neg (by simp), if_pos hl]
      rw [e1, e2]
      exact end_more R s a b w h ha hs hl
    · have e1 : endE s a 0 = 0 := by unfold endE; rw [if_neg (by simp), if_neg hl]
      have e2 : endB s a 0 b = b := by unfold endB; rw [if_neg (by simp), if_neg hl]
      rw [e1, e2]
      exact end_none R s a 0 b w h ha hs hl
  · have e1 : endE s a e = e := by unfold endE; rw [if_pos he]
    have e2 : endB s a e b = b := by unfold endB; rw [if_pos he]
    rw [e1, e2]
    exact end_bad R s a e b w h he ha hs
/-- What was read, and how the reader stands: in one. -/
theorem VlR.read {R : Nat} {s : ByteArray} {w w' : World} {h' : Hd}
    (hor : (∃ (a : Va) (j : Nat), valG s 12 0 = .ok a j ∧ RdP R w s j 0 0 w' ∧ Lies w' (fun x => w.heap.size ≤ x) a h') ∨ (∃ (er : Int) (bd : Nat), valG s 12 0 = .no er bd ∧ er ≠ 0 ∧ ∃ a' : Nat, a' ≤ s.size ∧ RdP R w s a' er bd w')) :
    ∃ (a : Nat) (e b : Int), a ≤ s.size ∧ RdP R w s a e b w' ∧ ((endE s a e ≠ 0 ∧ parseG s = (leafV 0 0, endB s a e b, endE s a e)) ∨ (endE s a e = 0 ∧ ∃ v, parseG s = (v, -1, 0) ∧ Lies w' (fun x => w.heap.size ≤ x) v h')) := by
  rcases hor with ⟨v, j, hg, hr, hl⟩ | ⟨er, bd, hg, h0, a', ha, hr⟩
  · have hj := val_in s 12 0 (by omega)
    rw [hg] at hj
    refine ⟨j, 0, 0, hj.2, hr, ?_⟩
    by_cases hb : blk s j < s.size
    · refine .inl ⟨?_, ?_⟩
      · unfold endE; rw [if_neg (by simp), if_pos hb]; decide
      · unfold parseG endE endB
        rw [hg]
        simp only [if_pos hb]
        simp
    · refine .inr ⟨?_, v, ?_, hl⟩
      · unfold endE; rw [if_neg (by simp), if_neg hb]
      · unfold parseG
        rw [hg]
        simp only [if_neg hb]
  · refine ⟨a', er, bd, ha, hr, .inl ⟨?_, ?_⟩⟩
    · unfold endE; rw [if_pos h0]; exact h0
    · unfold parseG endE endB
      rw [hg]
      simp only [if_pos h0]
theorem EV.up {R N : Nat} {w w' : World} (h : EV N w) (hb : Below N w w') (hN : N ≤ R) : EV R w' := fun w2 h2 => h w2 (hb.trans (h2.mono hN))
theorem lies_leaf0 (w : World) (S : Nat → Prop) : Lies w S (leafV 0 0) ⟨0, 0, ByteArray.empty, none, 0, 0, none, 0, 0⟩ := by
  unfold leafV Lies
  exact ⟨⟨rfl, rfl, rfl, rfl, rfl, rfl⟩, ⟨by decide, by decide, by decide, by simp, by decide, by decide, Nat.le_refl _, Nat.le_refl _⟩, ⟨[], fun h => by simp at h, by unfold LiesL; rfl⟩, ⟨[], fun h => by simp at h, by unfold LiesL; rfl⟩⟩
theorem drew_cell' (w : World) (p : Addr) : w.drew.cell? p = w.cell? p := rfl
theorem res5_drew {w : World} {Q : Nat} {u : Hd} {p : Addr} {v : Value} (h : w.cell? p = some v) (hp : p.block ≠ Q) : (res5 w Q u).drew.cell? p = some v := by
  rw [drew_cell', World.cell?_of_block (res5_set p.block hp)]
  exact h
set_option maxHeartbeats 2000000 in
set_option maxRecDepth 100000 in
theorem read_ok (s : ByteArray) (w : World) (hs : s.size ≤ 4000) (hE : EV w.heap.size w) : Calls Tryd.prog 21 #[.string s, .int .i64 4000] w (ReadR s w) := by
  have hgt : (decide ((4000 : Int) < (s.size : Int))) = false := decide_eq_false (by omega)
  have HRow := Lib.hid (new_row w)
  have hb0 : Below w.heap.size w ((w.alloc (Obj.cells #[.int .i64 0, .int .i64 0, .string { data := #[] }, .slice none 0 0, .slice none 0 0] 25)).alloc (Obj.cells #[.string s, .int .i64 0, .int .i64 0, .int .i64 0] 64)) := ((Below.refl _ _).alloc (Nat.le_refl _) _).alloc (by simp) _
  have hsz0 : ((w.alloc (Obj.cells #[.int .i64 0, .int .i64 0, .string { data := #[] }, .slice none 0 0, .slice none 0 0] 25)).alloc (Obj.cells #[.string s, .int .i64 0, .int .i64 0, .int .i64 0] 64)).heap.size = w.heap.size + 1 + 1 := by simp
  have hrd : Rdr ((w.alloc (Obj.cells #[.int .i64 0, .int .i64 0, .string { data := #[] }, .slice none 0 0, .slice none 0 0] 25)).alloc (Obj.cells #[.string s, .int .i64 0, .int .i64 0, .int .i64 0] 64)) (w.heap.size + 1) s 0 0 0 := by
    have := heap_alloc_new (w.alloc (Obj.cells #[.int .i64 0, .int .i64 0, .string { data := #[] }, .slice none 0 0, .slice none 0 0] 25)) (Obj.cells #[.string s, .int .i64 0, .int .i64 0, .int .i64 0] 64)
    rw [show (w.alloc (Obj.cells #[.int .i64 0, .int .i64 0, .string { data := #[] }, .slice none 0 0, .slice none 0 0] 25)).heap.size = w.heap.size + 1 by simp] at this
    exact this
  have HRow := Lib.hid (rowIs_blk HRow.out (Below.heap_alloc _ (Obj.cells #[.string s, .int .i64 0, .int .i64 0, .int .i64 0] 64) _ (by simp)))
  have hE0 := hE.up hb0 (Nat.le_refl _)
  have HB0 := Lib.hid hb0
  have HS0 := Lib.hid hsz0
  have HRD := Lib.hid hrd
  have HE0 := Lib.hid hE0
  clear hb0 hsz0 hrd hE0 hE
  go_enter Tryd.func21, Tryd.ntmps21
  go_wp2_with fail
  generalize (w.alloc (Obj.cells #[.int .i64 0, .int .i64 0, .string { data := #[] }, .slice none 0 0, .slice none 0 0] 25)).alloc (Obj.cells #[.string s, .int .i64 0, .int .i64 0, .int .i64 0] 64) = w0 at HRow HB0 HS0 HRD HE0 ⊢
  have K1 := Lib.hid (value_any (w.heap.size + 1) s 0 (by omega) 12 (by omega) 0 w0 (by omega) HRD.out (fun w2 h2 => HE0.out w2 (h2.mono (by omega))))
  refine K1.out.mono ?_
  rintro e1 w1 ⟨h', rfl, hor⟩
  obtain ⟨a, e, b, ha, hr, hor⟩ := VlR.read hor
  have HA := Lib.hid ha
  have HRP := Lib.hid hr
  have HOR := Lib.hid hor
  clear ha hr hor K1
  go_wp2_with fail
  have hw1 := HRP.out.2.size
  rw [HS0.out] at hw1
  have HV := Lib.hid (show (w1.alloc (Obj.cells #[.int .i64 h'.k, .int .i64 h'.n, .string h'.s, .slice h'.A h'.la h'.lc, .slice h'.F h'.lf h'.fc] 25)).rowIs w1.heap.size 25 5 (hdAt h') from hdAt_row (heap_alloc_new _ _))
  have HRP2 := Lib.hid (HRP.out.alloc (Obj.cells #[.int .i64 h'.k, .int .i64 h'.n, .string h'.s, .slice h'.A h'.la h'.lc, .slice h'.F h'.lf h'.fc] 25))
  have HW2 := Lib.hid (show ∀ k, k < w1.heap.size → (w1.alloc (Obj.cells #[.int .i64 h'.k, .int .i64 h'.n, .string h'.s, .slice h'.A h'.la h'.lc, .slice h'.F h'.lf h'.fc] 25)).heap[k]? = w1.heap[k]? from fun k hk => Below.heap_alloc _ _ _ hk)
  have HLI := Lib.hid (show ∀ v, Lies w1 (fun x => w0.heap.size ≤ x) v h' → Lies (w1.alloc (Obj.cells #[.int .i64 h'.k, .int .i64 h'.n, .string h'.s, .slice h'.A h'.la h'.lc, .slice h'.F h'.lf h'.fc] 25)) (fun x => w0.heap.size ≤ x) v h' from fun v hv => hv.below ((Below.refl w1.heap.size w1).alloc (Nat.le_refl _) _) (Nat.le_refl _))
  have HVs := Lib.hid (show w1.heap.size < (w1.alloc (Obj.cells #[.int .i64 h'.k, .int .i64 h'.n, .string h'.s, .slice h'.A h'.la h'.lc, .slice h'.F h'.lf h'.fc] 25)).heap.size by simp)
  have HVR := Lib.hid (show w1.heap.size ≠ w.heap.size + 1 by omega)
  have HQR := Lib.hid (show w.heap.size ≠ w.heap.size + 1 by omega)
  have HQ0 := Lib.hid (show w.heap.size < w0.heap.size by rw [HS0.out]; omega)
  generalize w1.alloc (Obj.cells #[.int .i64 h'.k, .int .i64 h'.n, .string h'.s, .slice h'.A h'.la h'.lc, .slice h'.F h'.lf h'.fc] 25) = w2 at HV HRP2 HW2 HLI HVs ⊢
  clear hw1 HW2
  refine (end_any (w.heap.size + 1) s a e b w2 HRP2.out.1 HA.out (by omega)).mono ?_
  rintro e3 w3 ⟨rfl, h3⟩
  have H3 := Lib.hid (HRP2.out.trans h3)
  have HK := Lib.hid h3.2
  clear h3
  generalize endE s a e = E at H3 HOR
  generalize endB s a e b = B at H3 HOR
  have HR9 := Lib.hid (rowIs_blk HRow.out (H3.out.2.block _ HQR.out HQ0.out))
  have z0 := HR9.out.cell (show 0 < 5 by decide)
  have z1 := HR9.out.cell (show 1 < 5 by decide)
  have z2 := HR9.out.cell (show 2 < 5 by decide)
  have z3 := HR9.out.cell (show 3 < 5 by decide)
  have z4 := HR9.out.cell (show 4 < 5 by decide)
  have g0 := HR9.out.frozen 0
  have g1 := HR9.out.frozen 1
  have g2 := HR9.out.frozen 2
  have g3 := HR9.out.frozen 3
  have g4 := HR9.out.frozen 4
  simp only [hdAt, Hd.cells, List.getD_cons_succ, List.getD_cons_zero] at z0 z1 z2 z3 z4
  have c2 := H3.out.1.c2
  have c3 := H3.out.1.c3
  rcases HOR.out with ⟨hE, hp⟩ | ⟨hE, v, hp, hl⟩
  · have hEb : (E != 0) = true := by simpa using hE
    have HP := Lib.hid hp
    clear hp hE
    have HS0 := Lib.hid (show w3.drew.cell? ⟨w.heap.size + 1, 2, none⟩ = some (.int .i64 E) ∧ w3.drew.cell? ⟨w.heap.size + 1, 3, none⟩ = some (.int .i64 B) from ⟨c2, c3⟩)
    have HS1 := Lib.hid (show (res5 w3 w.heap.size ⟨0, 0, ⟨#[]⟩, none, 0, 0, none, 0, 0⟩).drew.cell? ⟨w.heap.size + 1, 2, none⟩ = some (.int .i64 E) ∧ (res5 w3 w.heap.size ⟨0, 0, ⟨#[]⟩, none, 0, 0, none, 0, 0⟩).drew.cell? ⟨w.heap.size + 1, 3, none⟩ = some (.int .i64 B) from ⟨res5_drew c2 (show w.heap.size + 1 ≠ w.heap.size by omega), res5_drew c3 (show w.heap.size + 1 ≠ w.heap.size by omega)⟩)
    clear hgt
    go_wp2_with fail
    go_region_held3 (fun w' => w'.cell? ⟨w.heap.size + 1, 2, none⟩ = some (.int .i64 E) ∧ w'.cell? ⟨w.heap.size + 1, 3, none⟩ = some (.int .i64 B))
      (first
        | (have h7 := HS0.out; with_reducible exact h7)
        | (have h7 := HS1.out; with_reducible exact h7)
        | fail)
      (fail)
    go_wp2_with fail
    refine bodyPost_ret (v := .tuple #[.agg #[.int .i64 0, .int .i64 0, .string ByteArray.empty, .slice none 0 0, .slice none 0 0], .int .i64 B, .int .i64 E]) (by simp [results, Tryd.results21, go_sem, z0, z1, z2, z3, z4]; try rfl) rfl ?_
    refine ⟨⟨0, 0, ByteArray.empty, none, 0, 0, none, 0, 0⟩, by rw [HP.out], (res5_below (u := ⟨0, 0, ByteArray.empty, none, 0, 0, none, 0, 0⟩) (HB0.out.trans (H3.out.2.bel.mono (by omega))) (Nat.le_refl _)).drew, ?_⟩
    rw [HP.out]
    exact lies_leaf0 _ _
  · subst hE
    have HP := Lib.hid hp
    have HL := Lib.hid hl
    have HR8 := Lib.hid (rowIs_blk HV.out (HK.out.block _ HVR.out HVs.out))
    have v0 := HR8.out.cell (show 0 < 5 by decide)
    have v1 := HR8.out.cell (show 1 < 5 by decide)
    have v2 := HR8.out.cell (show 2 < 5 by decide)
    have v3 := HR8.out.cell (show 3 < 5 by decide)
    have v4 := HR8.out.cell (show 4 < 5 by decide)
    simp only [hdAt, Hd.cells, List.getD_cons_succ, List.getD_cons_zero] at v0 v1 v2 v3 v4
    clear hp hl
    go_wp2_with fail
    refine bodyPost_ret (v := .tuple #[.agg #[.int .i64 h'.k, .int .i64 h'.n, .string h'.s, .slice h'.A h'.la h'.lc, .slice h'.F h'.lf h'.fc], .int .i64 (-1), .int .i64 0]) (by simp [results, Tryd.results21, go_sem, z0, z1, z2, z3, z4]; try rfl) rfl ?_
    refine ⟨h', by rw [HP.out], res5_below (u := h') (HB0.out.trans (H3.out.2.bel.mono (by omega))) (Nat.le_refl _), ?_⟩
    rw [HP.out]
    have hs0 := HS0.out
    refine Lies.keep (fun p hp hp2 => World.cell?_of_block ?_) (fun b hb _ => by have hb' : w0.heap.size ≤ b := hb; show w.heap.size ≤ b; omega) v h' (HLI.out v HL.out)
    have hp' : w0.heap.size ≤ p.block := hp
    rw [res5_set (u := h') p.block (by omega)]
    exact HK.out.block p.block (by omega) hp2
set_option maxHeartbeats 2000000 in
set_option maxRecDepth 100000 in
theorem read_long (s : ByteArray) (w : World) (hs : 4000 < s.size) (hm : s.size ≤ maxLen) : Calls Tryd.prog 21 #[.string s, .int .i64 4000] w fun e w' => e = .returned (.tuple #[.agg #[.int .i64 0, .int .i64 0, .string ByteArray.empty, .slice none 0 0, .slice none 0 0], .int .i64 0, .int .i64 6]) ∧ Below w.heap.size w w' := by
  have hgt : (decide ((4000 : Int) < (s.size : Int))) = true := decide_eq_true (by omega)
  have HRow := Lib.hid (new_row w)
  have hb0 := Lib.hid ((Below.refl w.heap.size w).alloc (Nat.le_refl _) (Obj.cells #[.int .i64 0, .int .i64 0, .string { data := #[] }, .slice none 0 0, .slice none 0 0] 25))
  go_enter Tryd.func21, Tryd.ntmps21
  go_wp2_with fail
  refine bodyPost_ret (v := .tuple #[.agg #[.int .i64 0, .int .i64 0, .string ByteArray.empty, .slice none 0 0, .slice none 0 0], .int .i64 0, .int .i64 6]) (by simp [results, Tryd.results21, go_sem]; try rfl) rfl ?_
  exact ⟨rfl, hb0.out⟩
set_option maxHeartbeats 2000000 in
set_option maxRecDepth 100000 in
theorem parse_ok (s : ByteArray) (w : World) (hs : s.size ≤ 4000) (hE : EV w.heap.size w) : Calls Tryd.prog 12 #[.string s] w (ReadR s w) := by
  have HRow := Lib.hid (new_row w)
  have HB0 := Lib.hid ((Below.refl w.heap.size w).alloc (Nat.le_refl _) (Obj.cells #[.int .i64 0, .int .i64 0, .string { data := #[] }, .slice none 0 0, .slice none 0 0] 25))
  have HS0 := Lib.hid (show (w.alloc (Obj.cells #[.int .i64 0, .int .i64 0, .string { data := #[] }, .slice none 0 0, .slice none 0 0] 25)).heap.size = w.heap.size + 1 by simp)
  have HE := Lib.hid hE
  clear hE
  go_enter Tryd.func12, Tryd.ntmps12
  go_wp2_with fail
  generalize w.alloc (Obj.cells #[.int .i64 0, .int .i64 0, .string { data := #[] }, .slice none 0 0, .slice none 0 0] 25) = w0 at HRow HB0 HS0 ⊢
  refine (read_ok s w0 hs (HE.out.up HB0.out (by rw [HS0.out]; omega))).mono ?_
  rintro e w1 ⟨h', rfl, hb, hl⟩
  have HB := Lib.hid hb
  have HL := Lib.hid hl
  have HR9 := Lib.hid (rowIs_blk HRow.out (hb.block _ (show w.heap.size < w0.heap.size by rw [HS0.out]; omega)))
  have z0 := HR9.out.cell (show 0 < 5 by decide)
  have z1 := HR9.out.cell (show 1 < 5 by decide)
  have z2 := HR9.out.cell (show 2 < 5 by decide)
  have z3 := HR9.out.cell (show 3 < 5 by decide)
  have z4 := HR9.out.cell (show 4 < 5 by decide)
  have g0 := HR9.out.frozen 0
  have g1 := HR9.out.frozen 1
  have g2 := HR9.out.frozen 2
  have g3 := HR9.out.frozen 3
  have g4 := HR9.out.frozen 4
  simp only [hdAt, Hd.cells, List.getD_cons_succ, List.getD_cons_zero] at z0 z1 z2 z3 z4
  clear hb hl
  obtain ⟨m, hm⟩ : ∃ m, (parseG s).2.1 = m := ⟨_, rfl⟩
  obtain ⟨er, her⟩ : ∃ er, (parseG s).2.2 = er := ⟨_, rfl⟩
  rw [hm, her]
  have HM := Lib.hid hm
  have HER := Lib.hid her
  clear hm her
  go_wp2_with fail
  refine bodyPost_ret (v := .tuple #[.agg #[.int .i64 h'.k, .int .i64 h'.n, .string h'.s, .slice h'.A h'.la h'.lc, .slice h'.F h'.lf h'.fc], .int .i64 m, .int .i64 er]) (by simp [results, Tryd.results12, go_sem, z0, z1, z2, z3, z4]; try rfl) rfl ?_
  have hs0 := HS0.out
  refine ⟨h', by rw [HM.out, HER.out], res5_below (u := h') (HB0.out.trans (HB.out.mono (by omega))) (Nat.le_refl _), ?_⟩
  refine Lies.keep (fun p hp hp2 => World.cell?_of_block ?_) (fun b hb _ => by have hb' : w0.heap.size ≤ b := hb; show w.heap.size ≤ b; omega) _ h' HL.out
  have hp' : w0.heap.size ≤ p.block := hp
  rw [res5_set (u := h') p.block (by omega)]
set_option maxHeartbeats 2000000 in
set_option maxRecDepth 100000 in
theorem parse_long (s : ByteArray) (w : World) (hs : 4000 < s.size) (hm : s.size ≤ maxLen) : Calls Tryd.prog 12 #[.string s] w fun e w' => e = .returned (.tuple #[.agg #[.int .i64 0, .int .i64 0, .string ByteArray.empty, .slice none 0 0, .slice none 0 0], .int .i64 0, .int .i64 6]) ∧ Below w.heap.size w w' := by
  have HRow := Lib.hid (new_row w)
  have HB0 := Lib.hid ((Below.refl w.heap.size w).alloc (Nat.le_refl _) (Obj.cells #[.int .i64 0, .int .i64 0, .string { data := #[] }, .slice none 0 0, .slice none 0 0] 25))
  have HS0 := Lib.hid (show (w.alloc (Obj.cells #[.int .i64 0, .int .i64 0, .string { data := #[] }, .slice none 0 0, .slice none 0 0] 25)).heap.size = w.heap.size + 1 by simp)
  go_enter Tryd.func12, Tryd.ntmps12
  go_wp2_with fail
  generalize w.alloc (Obj.cells #[.int .i64 0, .int .i64 0, .string { data := #[] }, .slice none 0 0, .slice none 0 0] 25) = w0 at HRow HB0 HS0 ⊢
  refine (read_long s w0 hs hm).mono ?_
  rintro e w1 ⟨rfl, hb⟩
  have HB := Lib.hid hb
  have HR9 := Lib.hid (rowIs_blk HRow.out (hb.block _ (show w.heap.size < w0.heap.size by rw [HS0.out]; omega)))
  have z0 := HR9.out.cell (show 0 < 5 by decide)
  have z1 := HR9.out.cell (show 1 < 5 by decide)
  have z2 := HR9.out.cell (show 2 < 5 by decide)
  have z3 := HR9.out.cell (show 3 < 5 by decide)
  have z4 := HR9.out.cell (show 4 < 5 by decide)
  have g0 := HR9.out.frozen 0
  have g1 := HR9.out.frozen 1
  have g2 := HR9.out.frozen 2
  have g3 := HR9.out.frozen 3
  have g4 := HR9.out.frozen 4
  simp only [hdAt, Hd.cells, List.getD_cons_succ, List.getD_cons_zero] at z0 z1 z2 z3 z4
  clear hb
  go_wp2_with fail
  refine bodyPost_ret (v := .tuple #[.agg #[.int .i64 0, .int .i64 0, .string ByteArray.empty, .slice none 0 0, .slice none 0 0], .int .i64 0, .int .i64 6]) (by simp [results, Tryd.results12, go_sem, z0, z1, z2, z3, z4]; try rfl) rfl ?_
  have hs0 := HS0.out
  exact ⟨rfl, res5_below (u := ⟨0, 0, ByteArray.empty, none, 0, 0, none, 0, 0⟩) (HB0.out.trans (HB.out.mono (by omega))) (Nat.le_refl _)⟩
end Go.Proofs.YtbinmhcjadkmgaaDoor

/- JsonBack, walked. -/
set_option linter.unusedVariables false
set_option linter.unusedSimpArgs false
namespace Go.Proofs.YtbinmhcjadkmgaaDoor
open Go.RowKit
theorem gErrR : Tryd.prog.globalNamed "strconv.ErrRange" = some 5 := by kernel_rfl
theorem tyErrR : (Tryd.prog.globals[(5 : Nat)]?).map (·.type) = some 51 := by kernel_rfl
theorem errR_of {r : List (String × DataW Unit)} {W : World} (h : laidMet Tryd.prog (("strconv.ErrRange", Rows.laid_strconv_ErrRange) :: r) W) : ErrW W := by
  obtain ⟨a, s, hv, _⟩ := laid_sentinel h gErrR tyErrR Tryd.underlying51 rowErr Tryd.underlying129 Tryd.underlying131 rfl rfl Tryd.underlying9 (by kernel_rfl) (by kernel_rfl)
  have := World.var?_cell gErrR hv 0
  exact ⟨_, _, by simpa using this⟩
theorem ErrW.go {w w' : World} (h : ErrW w) (hb : Below w.heap.size w w') : ErrW w' := by
  obtain ⟨te, pe, h⟩ := h
  exact ⟨te, pe, (hb.cell (p := ⟨5, 0, none⟩) (cell_lt h)).trans h⟩
/-- What the laws that read have listed. -/
def Tabs5 (w : World) : Prop := Tabs w ∧ ErrV w ∧ ErrW w
theorem Tabs5.go {w w' : World} (h : Tabs5 w) (hb : Below w.heap.size w w') : Tabs5 w' := ⟨h.1.go hb, h.2.1.go hb, h.2.2.go hb⟩
theorem Tabs5.ev {w : World} (h : Tabs5 w) : EV w.heap.size w := fun w' hb => ⟨h.2.1.go hb, h.2.2.go hb⟩
theorem tabs5_of {x : String × DataW Unit} {W : World} (h : laidMet Tryd.prog (x :: ("math/bits.deBruijn64tab", Rows.laid_math_bits_deBruijn64tab) :: ("internal/strconv.uint64pow10", Rows.laid_internal_strconv_uint64pow10) :: ("strconv.ErrRange", Rows.laid_strconv_ErrRange) :: [("strconv.ErrSyntax", Rows.laid_strconv_ErrSyntax)]) W) : Tabs5 W :=
  ⟨tabs_of h, err_of h.tail.tail.tail.tail, errR_of h.tail.tail.tail⟩
/-- A right value's JSON, read. -/
theorem parse_js {a : Va} {J : ByteArray} (hJ : J = ⟨a.js.toArray⟩) (hR : a.R 12) (hW : a.W) : parseG J = (a, -1, 0) := by
  have e : J.data.toList.drop 0 = a.js ++ [] := by rw [hJ]; simp
  have h := val_js J a 12 12 0 [] hR hW (Nat.le_refl _) e (fun c hc => by simp at hc)
  have hs : J.size = a.js.length := by rw [hJ]; show a.js.toArray.size = _; simp
  unfold parseG
  rw [h]
  have hb : ¬ blk J (0 + a.js.length) < J.size := by have := blk_ge J (0 + a.js.length); omega
  simp only [if_neg hb]
theorem js_bytes (a : Va) : (⟨a.js.toArray⟩ : ByteArray).size = a.js.length := by show a.js.toArray.size = _; simp
set_option maxHeartbeats 1000000 in
set_option maxRecDepth 100000 in
theorem JsonBack.walk (W : World) (hT : Tabs5 W) (a : Va) (h : Hd) (H : Lies W (fun _ => True) a h) : Calls Tryd.prog 4 #[h.val] W (jends W) := by
  have HT := Lib.hid hT
  have HL := Lib.hid H
  have HW := Lib.hid (lies_W a _ h W H)
  clear hT H
  have HB0 := Lib.hid (BoxAt.start W h 25)
  unfold Hd.val
  go_enter Tryd.func4, Tryd.ntmps4
  go_wp2_with fail
  refine (awake_any _ (HT.out.1.go HB0.out.1)).mono ?_
  rintro e w1 ⟨rfl, hb1⟩
  have HB1 := Lib.hid (HB0.out.go hb1 (Nat.le_refl _))
  clear hb1
  have q0 := HB1.out.2.2 0 _ rfl
  have q1 := HB1.out.2.2 1 _ rfl
  have q2 := HB1.out.2.2 2 _ rfl
  have q3 := HB1.out.2.2 3 _ rfl
  have q4 := HB1.out.2.2 4 _ rfl
  have K := few_ref a _ h w1 (HL.out.below HB1.out.1 (Nat.le_refl _))
  unfold Hd.val at K
  have K := Lib.hid K
  go_wp2_with fail
  refine K.out.mono ?_
  rintro e w2 ⟨r, rfl, hr, hb2⟩
  clear K q0 q1 q2 q3 q4
  have HB2 := Lib.hid (HB1.out.go hb2 (Nat.le_refl _))
  clear hb2
  have q0 := HB2.out.2.2 0 _ rfl
  have q1 := HB2.out.2.2 1 _ rfl
  have q2 := HB2.out.2.2 2 _ rfl
  have q3 := HB2.out.2.2 3 _ rfl
  have q4 := HB2.out.2.2 4 _ rfl
  cases r
  · clear hr q0 q1 q2 q3 q4
    go_wp2_with fail
    refine (awake_any _ (HT.out.1.go HB2.out.1)).mono ?_
    rintro e w3 ⟨rfl, hb3⟩
    have HB3 := Lib.hid (HB2.out.go hb3 (Nat.le_refl _))
    clear hb3
    go_wp2_with fail
    go_ret
    exact ⟨rfl, HB3.out.1⟩
  obtain ⟨hsh, hcn⟩ := hr rfl
  have HSH := Lib.hid hsh
  have HCN := Lib.hid hcn
  clear hsh hcn hr
  have K3 := rightref a _ h w2 (HL.out.below HB2.out.1 (Nat.le_refl _)) HSH.out
  unfold Hd.val at K3
  have K3 := Lib.hid K3
  go_wp2_with fail
  refine K3.out.mono ?_
  rintro e w3 ⟨r, rfl, hr, hb3⟩
  clear K3 q0 q1 q2 q3 q4
  have HB3 := Lib.hid (HB2.out.go hb3 (Nat.le_refl _))
  clear hb3
  cases r
  · clear hr
    go_wp2_with fail
    refine (awake_any _ (HT.out.1.go HB3.out.1)).mono ?_
    rintro e w4 ⟨rfl, hb4⟩
    have HB4 := Lib.hid (HB3.out.go hb4 (Nat.le_refl _))
    clear hb4
    go_wp2_with fail
    go_ret
    exact ⟨rfl, HB4.out.1⟩
  have HR := Lib.hid (hr.1 rfl)
  clear hr
  have q0 := HB3.out.2.2 0 _ rfl
  have q1 := HB3.out.2.2 1 _ rfl
  have q2 := HB3.out.2.2 2 _ rfl
  have q3 := HB3.out.2.2 3 _ rfl
  have q4 := HB3.out.2.2 4 _ rfl
  obtain ⟨J, hJ⟩ : ∃ J : ByteArray, J = ⟨a.js.toArray⟩ := ⟨_, rfl⟩
  have hlen : J.size ≤ maxLen := by
    rw [hJ, js_bytes]
    have := js_len HR.out HSH.out
    have := HCN.out
    unfold maxLen
    omega
  have K2 := encode_yes a h w3 (HL.out.below HB3.out.1 (Nat.le_refl _)) HR.out HSH.out HCN.out (HT.out.1.go HB3.out.1)
  rw [← hJ] at K2
  unfold Hd.val at K2
  have K2 := Lib.hid K2
  have HJ := Lib.hid hJ
  have HLen := Lib.hid hlen
  clear hJ
  go_wp2_with fail
  refine K2.out.mono ?_
  rintro e w4 ⟨rfl, hb4⟩
  clear K2 q0 q1 q2 q3 q4
  have HB4 := Lib.hid (HB3.out.go hb4 (Nat.le_refl _))
  clear hb4
  by_cases hbig : 4000 < J.size
  · have hd : decide ((4000 : Int) < (J.size : Int)) = true := decide_eq_true (by omega)
    have KP := Lib.hid (parse_long J w4 hbig HLen.out)
    clear hbig
    go_wp2_with fail
    refine KP.out.mono ?_
    rintro e w5 ⟨rfl, hb5⟩
    have HB5 := Lib.hid (HB4.out.go hb5 (Nat.le_refl _))
    clear KP hb5
    go_wp2_with fail
    go_ret
    exact ⟨rfl, HB5.out.1.alloc (Nat.le_of_lt HB5.out.2.1) _⟩
  · have hd : decide ((4000 : Int) < (J.size : Int)) = false := decide_eq_false (by omega)
    have KP := Lib.hid (parse_ok J w4 (by omega) ((HT.out.go HB4.out.1).ev))
    have HPJ := Lib.hid (parse_js HJ.out HR.out HW.out)
    clear hbig
    go_wp2_with fail
    refine KP.out.mono ?_
    rintro e w5 ⟨g, rfl, hb5, hl5⟩
    rw [HPJ.out] at hl5 ⊢
    have HL5 := Lib.hid hl5
    have HB5 := Lib.hid (HB4.out.go hb5 (Nat.le_refl _))
    clear KP hb5 hl5
    have HB6 := Lib.hid (HB5.out.go ((Below.refl w5.heap.size w5).alloc (Nat.le_refl _) (Obj.cells #[.int .i64 g.k, .int .i64 g.n, .string g.s, .slice g.A g.la g.lc, .slice g.F g.lf g.fc] 25)) (Nat.le_refl _))
    have HX6 := Lib.hid (Bx.start w5 g 25)
    have HG6 := Lib.hid (HL5.out.below ((Below.refl w5.heap.size w5).alloc (Nat.le_refl _) (Obj.cells #[.int .i64 g.k, .int .i64 g.n, .string g.s, .slice g.A g.la g.lc, .slice g.F g.lf g.fc] 25)) (Nat.le_refl _))
    have K6 := same_ref a a _ _ h g _ (HL.out.below HB6.out.1 (Nat.le_refl _)) HG6.out
    unfold Hd.val at K6
    have K6 := Lib.hid K6
    have q0 := HB6.out.2.2 0 _ rfl
    have q1 := HB6.out.2.2 1 _ rfl
    have q2 := HB6.out.2.2 2 _ rfl
    have q3 := HB6.out.2.2 3 _ rfl
    have q4 := HB6.out.2.2 4 _ rfl
    have p0 := HX6.out.2 0 _ rfl
    have p1 := HX6.out.2 1 _ rfl
    have p2 := HX6.out.2 2 _ rfl
    have p3 := HX6.out.2 3 _ rfl
    have p4 := HX6.out.2 4 _ rfl
    go_wp2_with fail
    refine K6.out.mono ?_
    rintro e w6 ⟨r, rfl, hr, hb6⟩
    obtain rfl : r = true := hr.2 rfl
    have HB7 := Lib.hid (HB6.out.go hb6 (Nat.le_refl _))
    clear K6 hr hb6 q0 q1 q2 q3 q4 p0 p1 p2 p3 p4
    go_wp2_with fail
    go_ret
    exact ⟨rfl, HB7.out.1⟩
end Go.Proofs.YtbinmhcjadkmgaaDoor

/- A text that is read to a place is read so too where more stands behind; plain. -/
set_option linter.unusedVariables false
set_option linter.unusedSimpArgs false
namespace Go.Proofs.YtbinmhcjadkmgaaDoor
open Go.RowKit
/-- t is a beginning of s. -/
def Bgn (t s : ByteArray) : Prop := ∃ u, s.data.toList = t.data.toList ++ u
theorem Bgn.le {t s : ByteArray} (h : Bgn t s) : t.size ≤ s.size := by
  obtain ⟨u, h⟩ := h
  have := congrArg List.length h
  rw [List.length_append, ← Lib.size_eq, ← Lib.size_eq] at this
  omega
theorem Bgn.drop {t s : ByteArray} (h : Bgn t s) : ∃ u, ∀ i, i ≤ t.size → s.data.toList.drop i = t.data.toList.drop i ++ u := by
  obtain ⟨u, h⟩ := h
  refine ⟨u, fun i hi => ?_⟩
  rw [h, List.drop_append_of_le_length (by rw [← Lib.size_eq]; exact hi)]
theorem Bgn.get {t s : ByteArray} (h : Bgn t s) {i : Nat} (hi : i < t.size) : s.get! i = t.get! i := by
  have hl := h.le
  rw [← get_bang_data s i (by omega), ← get_bang_data t i hi]
  obtain ⟨u, h⟩ := h
  simp only [h]
  exact List.getElem_append_left (by rw [← Lib.size_eq]; exact hi)
theorem Bgn.ext {t s : ByteArray} (h : Bgn t s) {p : Nat} (hp : p ≤ t.size) : Bgn (t.extract p t.size) (s.extract p s.size) := by
  obtain ⟨u, hu⟩ := h.drop
  refine ⟨u, ?_⟩
  have e1 : (s.extract p s.size).data.toList = s.data.toList.drop p := by
    rw [Lib.extract_eq]
    exact List.take_of_length_le (by rw [List.length_drop, ← Lib.size_eq]; exact Nat.le_refl _)
  have e2 : (t.extract p t.size).data.toList = t.data.toList.drop p := by
    rw [Lib.extract_eq]
    exact List.take_of_length_le (by rw [List.length_drop, ← Lib.size_eq]; exact Nat.le_refl _)
  rw [e1, e2, hu p hp]
theorem blk_ext {t s : ByteArray} (h : Bgn t s) {i : Nat} (hb : blk t i < t.size) : blk s i = blk t i := by
  have hl := h.le
  have go : ∀ f i, t.size < i + f → blkF t f i < t.size → blk s i = blkF t f i := by
    intro f
    induction f with
    | zero => intro i h1 h2; unfold blkF at h2; omega
    | succ f ih =>
      intro i h1 h2
      unfold blkF at h2 ⊢
      by_cases c : i < t.size ∧ isBl (t.get! i).toNat = true
      · rw [if_pos c] at h2 ⊢
        rw [← blk_step (by omega) (by rw [h.get c.1]; exact c.2)]
        exact ih (i + 1) (by omega) h2
      · rw [if_neg c] at h2 ⊢
        exact blk_stop fun x => c ⟨h2, by rw [← h.get h2]; exact x.2⟩
  exact go _ i (by omega) hb
theorem dgs_ext {t s : ByteArray} (h : Bgn t s) {i : Nat} (hb : dgs t i < t.size) : dgs s i = dgs t i := by
  have hl := h.le
  have go : ∀ f i, t.size < i + f → dgF t f i < t.size → dgs s i = dgF t f i := by
    intro f
    induction f with
    | zero => intro i h1 h2; unfold dgF at h2; omega
    | succ f ih =>
      intro i h1 h2
      unfold dgF at h2 ⊢
      by_cases c : i < t.size ∧ isDg (t.get! i) = true
      · rw [if_pos c] at h2 ⊢
        rw [← dgs_step (by omega) (by rw [h.get c.1]; exact c.2)]
        exact ih (i + 1) (by omega) h2
      · rw [if_neg c] at h2 ⊢
        exact dgs_stop fun x => c ⟨h2, by rw [← h.get h2]; exact x.2⟩
  exact go _ i (by omega) hb
theorem pre_ext {t s p : ByteArray} (h : Bgn t s) {i : Nat} (hi : i ≤ t.size) (hp : preAt t i p = true) : preAt s i p = true := by
  obtain ⟨u, hu⟩ := h.drop
  rw [pre_drop, List.isPrefixOf_iff_prefix] at hp ⊢
  rw [hu i hi]
  exact hp.trans (List.prefix_append _ _)
theorem at_drop {s : ByteArray} {i : Nat} (h : i < s.size) : s.data.toList.drop i = s.get! i :: s.data.toList.drop (i + 1) := by
  rw [← get_bang_data s i h]
  exact List.drop_eq_getElem_cons (by rw [← Lib.size_eq]; exact h)
theorem pre_one {s : ByteArray} {i : Nat} {c : UInt8} (h : i < s.size) : preAt s i ⟨#[c]⟩ = (c == s.get! i) := by
  rw [pre_drop, at_drop h]
  show (c == s.get! i && List.isPrefixOf [] _) = _
  simp [List.isPrefixOf]
theorem sgn_lt {s : ByteArray} {i : Nat} {c : UInt8} (h : sgn s i ⟨#[c]⟩ = true) : blk s i < s.size := by
  unfold sgn at h
  rcases Nat.lt_or_ge (blk s i) s.size with q | q
  · exact q
  · rw [pre_drop, List.drop_eq_nil_of_le (by rw [← Lib.size_eq]; exact q)] at h
    simp at h
theorem sgn_ext {t s : ByteArray} (h : Bgn t s) {i : Nat} {c : UInt8} (hb : blk t i < t.size) : sgn s i ⟨#[c]⟩ = sgn t i ⟨#[c]⟩ := by
  unfold sgn
  rw [blk_ext h hb, pre_one (by have := h.le; omega), pre_one hb, h.get hb]
theorem is4_ext {t s : ByteArray} (h : Bgn t s) {i : Nat} (h4 : is4 t i = true) : is4 s i = true ∧ v4 s i = v4 t i := by
  have hi := (is4_in t i h4).1
  have hl := h.le
  have g : ∀ k, k < 4 → g4 s i k = g4 t i k := fun k hk => by unfold g4; rw [h.get (by omega)]
  simp only [is4, Bool.and_eq_true, decide_eq_true_eq] at h4 ⊢
  unfold v4
  rw [g 0 (by omega), g 1 (by omega), g 2 (by omega), g 3 (by omega)]
  exact ⟨⟨by omega, h4.2⟩, rfl⟩
theorem isU_ext {t s : ByteArray} (h : Bgn t s) {i : Nat} (hu : isU t i = true) : isU s i = true ∧ v4 s (i + 2) = v4 t (i + 2) := by
  have hi := (isU_in t i hu).1
  simp only [isU, Bool.and_eq_true] at hu ⊢
  have := is4_ext h hu.1.1
  rw [h.get (by omega), h.get (by omega)]
  exact ⟨⟨⟨this.1, hu.1.2⟩, hu.2⟩, this.2⟩
theorem numR_ext {t s : ByteArray} (h : Bgn t s) {i : Nat} (h0 : (numR t i).2 ≠ 0) : numR s i = numR t i := by
  unfold numR at h0 ⊢
  by_cases c : isU t i = true
  · obtain ⟨c1, c2⟩ := isU_ext h c
    simp only [if_pos c] at h0
    simp only [if_pos c, if_pos c1, c2]
    by_cases d : v4 t (i + 2) < 55296 ∨ 57343 < v4 t (i + 2)
    · simp only [if_pos d]
    · simp only [if_neg d] at h0 ⊢
      by_cases e : 56319 < v4 t (i + 2)
      · simp only [if_pos e]
      · simp only [if_neg e] at h0 ⊢
        by_cases f : isU t (i + 6) = true
        · obtain ⟨f1, f2⟩ := isU_ext h f
          have f3 : v4 s (i + 8) = v4 t (i + 8) := f2
          simp only [if_pos f1, if_pos f, f3]
        · rw [if_neg f] at h0
          exact absurd rfl h0
  · rw [if_neg c] at h0
    exact absurd rfl h0
theorem escR_ext {t s : ByteArray} (h : Bgn t s) {i : Nat} (h0 : (escR t i).2 ≠ 0) : escR s i = escR t i := by
  have hl := h.le
  unfold escR at h0 ⊢
  by_cases c : i + 2 ≤ t.size
  · have c' : i + 2 ≤ s.size := by omega
    simp only [if_pos c] at h0
    simp only [if_pos c, if_pos c', h.get (show i + 1 < t.size by omega)]
    by_cases c1 : (t.get! (i + 1)).toNat = 34 ∨ (t.get! (i + 1)).toNat = 92 ∨ (t.get! (i + 1)).toNat = 47
    · simp only [if_pos c1]
    simp only [if_neg c1] at h0 ⊢
    by_cases c2 : (t.get! (i + 1)).toNat = 98
    · simp only [if_pos c2]
    simp only [if_neg c2] at h0 ⊢
    by_cases c3 : (t.get! (i + 1)).toNat = 102
    · simp only [if_pos c3]
    simp only [if_neg c3] at h0 ⊢
    by_cases c4 : (t.get! (i + 1)).toNat = 110
    · simp only [if_pos c4]
    simp only [if_neg c4] at h0 ⊢
    by_cases c5 : (t.get! (i + 1)).toNat = 114
    · simp only [if_pos c5]
    simp only [if_neg c5] at h0 ⊢
    by_cases c6 : (t.get! (i + 1)).toNat = 116
    · simp only [if_pos c6]
    simp only [if_neg c6] at h0 ⊢
    by_cases c7 : (t.get! (i + 1)).toNat = 117
    · simp only [if_pos c7] at h0 ⊢
      exact numR_ext h h0
    · simp only [if_neg c7]
  · rw [if_neg c] at h0
    exact absurd rfl h0
theorem unqF_ext {t s : ByteArray} (h : Bgn t s) : ∀ (f i : Nat) (o x : List UInt8) (n : Nat), i ≤ t.size → unqF t f i o = (x, n, 0) → ∀ g, s.size < i + g → unqF s g i o = (x, n, 0)
  | 0, i, o, x, n, hi, hq, g, hg => by simp [unqF] at hq
  | f + 1, i, o, x, n, hi, hq, g, hg => by
    have hl := h.le
    unfold unqF at hq
    by_cases h1 : i < t.size
    · rw [if_pos h1] at hq
      have hge := h.get h1
      by_cases h2 : (t.get! i).toNat = 34
      · rw [if_pos h2] at hq
        rw [unqF_close s g i o (by omega) hg (by rw [hge]; exact h2)]
        exact hq
      rw [if_neg h2] at hq
      by_cases h3 : (t.get! i).toNat < 32
      · rw [if_pos h3] at hq; simp at hq
      rw [if_neg h3] at hq
      by_cases h4 : (t.get! i).toNat = 92
      · rw [if_pos h4] at hq
        by_cases h5 : (escR t i).2 = 0
        · rw [if_pos h5] at hq; simp at hq
        · rw [if_neg h5] at hq
          have he := escR_ext h h5
          have hk : i + (escR t i).2 ≤ t.size := by
            rcases escR_ok t i with e | e
            · exact absurd e h5
            · exact e.2.2.1
          obtain ⟨g', e1, e2⟩ := unqF_esc s g i o (by omega) hg (by rw [hge]; exact h4) (by rw [he]; exact h5)
          rw [he] at e1 e2
          rw [e1]
          exact unqF_ext h f _ _ x n hk hq g' e2
      · rw [if_neg h4] at hq
        by_cases h5 : badAt t i = true
        · rw [if_pos h5] at hq; simp at hq
        · rw [if_neg h5] at hq
          have hb : badAt t i = false := by simpa using h5
          obtain ⟨a1, a2⟩ := enc_dec t i h1 hb
          have hk := (dec_in t i h1).2.1
          obtain ⟨u, hu⟩ := h.drop
          have hd : s.data.toList.drop i = encL (Utf8.decode t i).1 ++ (t.data.toList.drop (i + (Utf8.decode t i).2) ++ u) := by
            rw [hu i (by omega), a2, List.append_assoc]
          obtain ⟨b1, b2, b3⟩ := dec_enc s i _ a1 _ hd
          have hlen : (encL (Utf8.decode t i).1).length = (Utf8.decode t i).2 := by
            have e := congrArg List.length a2
            rw [List.length_append, List.length_drop, List.length_drop, ← Lib.size_eq] at e
            omega
          rw [hlen] at b2
          obtain ⟨g', e1, e2⟩ := unqF_rune s g i o (by omega) hg b3 (by rw [hge]; exact h2) (by rw [hge]; exact h3) (by rw [hge]; exact h4)
          rw [b2] at e1 e2
          rw [e1]
          exact unqF_ext h f _ _ x n hk hq g' e2
    · rw [if_neg h1] at hq; simp at hq
theorem unq_ext {t s : ByteArray} (h : Bgn t s) {x : List UInt8} {n : Nat} (hq : unq t = (x, n, 0)) : unq s = (x, n, 0) := by
  have hl := h.le
  unfold unq at hq ⊢
  by_cases c : 0 < t.size ∧ (t.get! 0).toNat = 34
  · rw [if_pos c] at hq
    rw [if_pos ⟨by omega, by rw [h.get c.1]; exact c.2⟩]
    exact unqF_ext h _ 1 [] x n c.1 hq _ (by omega)
  · rw [if_neg c] at hq; simp at hq
theorem uq_ext {t s : ByteArray} (h : Bgn t s) {p : Nat} (hp : p ≤ t.size) (h0 : (uq t p).2.2 = 0) : uq s p = uq t p := by
  have e : unq (t.extract p t.size) = ((uq t p).1, (uq t p).2.1, 0) := by rw [← h0]; rfl
  have := unq_ext (h.ext hp) e
  show unq (s.extract p s.size) = unq (t.extract p t.size)
  rw [this, e]
/-! ### values -/
/-- Read so too where more stands behind, but for what may go on. -/
def Ex (t s : ByteArray) (i : Nat) (vt vs : Got) : Prop := ∀ a j, vt = .ok a j → j < t.size → vs = .ok a j
set_option maxHeartbeats 4000000 in
theorem elems_ext {t s : ByteArray} (h : Bgn t s) {vt vs : Nat → Got} (hin : ∀ i, i ≤ t.size → GIn t i (vt i)) (hv : ∀ i, i ≤ t.size → Ex t s i (vt i) (vs i)) : ∀ (f i : Nat) (acc : List Va) (a : Va) (j : Nat), i ≤ t.size → elemsG vt t f i acc = .ok a j → ∀ g, s.size < i + g → elemsG vs s g i acc = .ok a j
  | 0, i, acc, a, j, hi, he, g, hg => by simp [elemsG] at he
  | f + 1, i, acc, a, j, hi, he, g, hg => by
    have hl := h.le
    unfold elemsG at he
    have h1 := hin i hi
    cases hx : vt i with
    | no e b => rw [hx] at he; simp at he
    | ok x k =>
      rw [hx] at he h1
      simp only at he
      have hk : k < t.size ∧ blk t k < t.size := by
        have hb := blk_ge t k
        by_cases c : sgn t k sComma = true
        · have := sgn_lt c; omega
        · rw [if_neg c] at he
          by_cases d : sgn t k sClL = true
          · have := sgn_lt d; omega
          · rw [if_neg d] at he; simp at he
      have hs := hv i hi x k hx hk.1
      cases g with
      | zero => omega
      | succ g =>
      unfold elemsG
      rw [hs]
      simp only
      rw [sgn_ext h hk.2, sgn_ext h hk.2, blk_ext h hk.2]
      by_cases c : sgn t k sComma = true
      · rw [if_pos c] at he ⊢
        have hc := sgn_in c h1.2
        have hb := blk_ge t k
        exact elems_ext h hin hv f _ _ a j hc he g (by have := h1.1; omega)
      · rw [if_neg c] at he ⊢
        by_cases d : sgn t k sClL = true
        · rw [if_pos d] at he ⊢; exact he
        · rw [if_neg d] at he; simp at he
set_option maxHeartbeats 4000000 in
theorem mems_ext {t s : ByteArray} (h : Bgn t s) {vt vs : Nat → Got} (hin : ∀ i, i ≤ t.size → GIn t i (vt i)) (hv : ∀ i, i ≤ t.size → Ex t s i (vt i) (vs i)) : ∀ (f i : Nat) (ks : List ByteArray) (acc : List Va) (a : Va) (j : Nat), i ≤ t.size → memsG vt t f i ks acc = .ok a j → ∀ g, s.size < i + g → memsG vs s g i ks acc = .ok a j
  | 0, i, ks, acc, a, j, hi, he, g, hg => by simp [memsG] at he
  | f + 1, i, ks, acc, a, j, hi, he, g, hg => by
    have hl := h.le
    unfold memsG at he
    have hbi := blk_le hi
    by_cases q0 : (uq t (blk t i)).2.2 ≠ 0
    · rw [if_pos q0] at he; simp at he
    rw [if_neg q0] at he
    have q0' : (uq t (blk t i)).2.2 = 0 := by omega
    have hqin := uq_in hbi
    have hbl : blk t i < t.size := by have := hqin.2 q0'; omega
    by_cases q1 : hasK ks ⟨(uq t (blk t i)).1.toArray⟩ = true
    · rw [if_pos q1] at he; simp at he
    rw [if_neg q1] at he
    by_cases q2 : sgn t (blk t i + (uq t (blk t i)).2.1) sColon = true
    · rw [if_pos q2] at he
      have hq2 := sgn_lt q2
      have hc2 := sgn_in q2 hqin.1
      have hc2' : blk t (blk t i + (uq t (blk t i)).2.1) + 1 ≤ t.size := hc2
      have h1 := hin _ hc2'
      cases hx : vt (blk t (blk t i + (uq t (blk t i)).2.1) + 1) with
      | no e b => rw [hx] at he; simp at he
      | ok x k =>
        rw [hx] at he h1
        simp only at he
        have hk : k < t.size ∧ blk t k < t.size := by
          have hb := blk_ge t k
          by_cases c : sgn t k sComma = true
          · have := sgn_lt c; omega
          · rw [if_neg c] at he
            by_cases d : sgn t k sClO = true
            · have := sgn_lt d; omega
            · rw [if_neg d] at he; simp at he
        have hs := hv _ hc2' x k hx hk.1
        cases g with
        | zero => omega
        | succ g =>
        unfold memsG
        rw [blk_ext h hbl, uq_ext h hbi q0', if_neg q0, if_neg q1, sgn_ext h hq2, if_pos q2, blk_ext h hq2, hs]
        simp only
        rw [sgn_ext h hk.2, sgn_ext h hk.2, blk_ext h hk.2]
        by_cases c : sgn t k sComma = true
        · rw [if_pos c] at he ⊢
          have hc := sgn_in c h1.2
          have hb := blk_ge t k
          have hb1 := blk_ge t i
          have hb2 := blk_ge t (blk t i + (uq t (blk t i)).2.1)
          exact mems_ext h hin hv f _ _ _ a j hc he g (by have := h1.1; omega)
        · rw [if_neg c] at he ⊢
          by_cases d : sgn t k sClO = true
          · rw [if_pos d] at he ⊢; exact he
          · rw [if_neg d] at he; simp at he
    · rw [if_neg q2] at he; simp at he
theorem num_ext {t s : ByteArray} (h : Bgn t s) {p : Nat} (hp : p < t.size) {a : Va} {j : Nat} (hn : numG t p = .ok a j) (hj : j < t.size) : numG s p = .ok a j := by
  have hl := h.le
  have e1 : neg1 s p = neg1 t p := by unfold neg1; rw [pre_one (by omega), pre_one hp, h.get hp]
  have e2 : fst1 s p = fst1 t p := by unfold fst1; rw [e1]
  have hf := fst1_in (s := t) (a := p) (by omega)
  have hge := dgs_ge t (fst1 t p)
  have hend : dgs t (fst1 t p) = j := by
    unfold numG at hn
    split at hn
    · simp at hn
    split at hn
    · simp at hn
    split at hn
    · simp at hn
    · injection hn
  have e3 : dgs s (fst1 t p) = dgs t (fst1 t p) := dgs_ext h (by omega)
  have e4 : s.get! (fst1 t p) = t.get! (fst1 t p) := h.get (by omega)
  have e5 : dvl s (fst1 t p) (dgs t (fst1 t p)) = dvl t (fst1 t p) (dgs t (fst1 t p)) := by
    obtain ⟨u, hu⟩ := h.drop
    unfold dvl
    rw [hu _ (by omega), List.take_append_of_le_length (by rw [List.length_drop, ← Lib.size_eq]; omega)]
  unfold numG at hn ⊢
  rw [e1, e2, e3, e4, e5]
  exact hn
theorem word_ext {t s : ByteArray} (h : Bgn t s) {p : Nat} (hp : p < t.size) {a : Va} {j : Nat} (hn : wordG t p = .ok a j) : wordG s p = .ok a j := by
  have first : ∀ (w : ByteArray) (c : UInt8) (r : List UInt8), w.data.toList = c :: r → t.get! p ≠ c → preAt s p w = false := fun w c r hw hne => by
    rw [pre_drop, at_drop (by have := h.le; omega), h.get hp, hw]
    simp only [List.isPrefixOf]
    have : (c == t.get! p) = false := by simpa using fun e : c = t.get! p => hne e.symm
    rw [this, Bool.false_and]
  have isc : ∀ (w : ByteArray) (c : UInt8) (r : List UInt8), w.data.toList = c :: r → preAt t p w = true → t.get! p = c := fun w c r hw hpre => by
    rw [pre_drop, at_drop hp, hw] at hpre
    simp only [List.isPrefixOf, Bool.and_eq_true, beq_iff_eq] at hpre
    exact hpre.1.symm
  unfold wordG at hn ⊢
  by_cases c1 : preAt t p wTrue = true
  · rw [if_pos c1] at hn
    rw [if_pos (pre_ext h (by omega) c1)]
    exact hn
  rw [if_neg c1] at hn
  by_cases c2 : preAt t p wFalse = true
  · rw [if_pos c2] at hn
    have e := isc wFalse 102 _ rfl c2
    rw [if_neg (by rw [first wTrue 116 _ rfl (by rw [e]; decide)]; decide), if_pos (pre_ext h (by omega) c2)]
    exact hn
  rw [if_neg c2] at hn
  by_cases c3 : preAt t p wNull = true
  · rw [if_pos c3] at hn
    have e := isc wNull 110 _ rfl c3
    rw [if_neg (by rw [first wTrue 116 _ rfl (by rw [e]; decide)]; decide), if_neg (by rw [first wFalse 102 _ rfl (by rw [e]; decide)]; decide), if_pos (pre_ext h (by omega) c3)]
    exact hn
  · rw [if_neg c3] at hn; simp at hn
theorem list_ext {t s : ByteArray} (h : Bgn t s) {vt vs : Nat → Got} (hin : ∀ i, i ≤ t.size → GIn t i (vt i)) (hv : ∀ i, i ≤ t.size → Ex t s i (vt i) (vs i)) {p : Nat} (hp : p + 1 ≤ t.size) {a : Va} {j : Nat} (hn : listG vt t p = .ok a j) : listG vs s p = .ok a j := by
  have hl := h.le
  have hb := blk_le hp
  have hlt : blk t (p + 1) < t.size := by
    rcases Nat.lt_or_ge (blk t (p + 1)) t.size with q | q
    · exact q
    · exfalso
      unfold listG at hn
      by_cases c : sgn t (p + 1) sClL = true
      · have := sgn_lt c; omega
      · rw [if_neg c] at hn
        have h4 := elems_in hin (t.size + 1) (blk t (p + 1)) [] hb
        rw [hn] at h4
        have := h4.1
        have := h4.2
        omega
  unfold listG at hn ⊢
  rw [sgn_ext h hlt, blk_ext h hlt]
  by_cases c : sgn t (p + 1) sClL = true
  · rw [if_pos c] at hn ⊢; exact hn
  · rw [if_neg c] at hn ⊢
    exact elems_ext h hin hv _ _ _ a j hb hn _ (by omega)
theorem obj_ext {t s : ByteArray} (h : Bgn t s) {vt vs : Nat → Got} (hin : ∀ i, i ≤ t.size → GIn t i (vt i)) (hv : ∀ i, i ≤ t.size → Ex t s i (vt i) (vs i)) {p : Nat} (hp : p + 1 ≤ t.size) {a : Va} {j : Nat} (hn : objG vt t p = .ok a j) : objG vs s p = .ok a j := by
  have hl := h.le
  have hb := blk_le hp
  have hlt : blk t (p + 1) < t.size := by
    rcases Nat.lt_or_ge (blk t (p + 1)) t.size with q | q
    · exact q
    · exfalso
      unfold objG at hn
      by_cases c : sgn t (p + 1) sClO = true
      · have := sgn_lt c; omega
      · rw [if_neg c] at hn
        have h4 := mems_in hin (t.size + 1) (blk t (p + 1)) [] [] hb
        rw [hn] at h4
        have := h4.1
        have := h4.2
        omega
  unfold objG at hn ⊢
  rw [sgn_ext h hlt, blk_ext h hlt]
  by_cases c : sgn t (p + 1) sClO = true
  · rw [if_pos c] at hn ⊢; exact hn
  · rw [if_neg c] at hn ⊢
    exact mems_ext h hin hv _ _ _ _ a j hb hn _ (by omega)
theorem val_ext {t s : ByteArray} (h : Bgn t s) : ∀ (f i : Nat), i ≤ t.size → Ex t s i (valG t f i) (valG s f i)
  | 0, i, hi => fun a j he _ => by
    unfold valG at he
    split at he <;> simp at he
  | f + 1, i, hi => fun a j he hj => by
    have hl := h.le
    unfold valG at he
    by_cases c0 : t.size ≤ blk t i
    · rw [if_pos c0] at he; simp at he
    rw [if_neg c0] at he
    have hb : blk t i < t.size := by omega
    unfold valG
    rw [blk_ext h hb, if_neg (by omega), h.get hb]
    by_cases c1 : (t.get! (blk t i)).toNat = 34
    · rw [if_pos c1] at he ⊢
      unfold txtG at he ⊢
      by_cases d : (uq t (blk t i)).2.2 = 0
      · rw [uq_ext h (by omega) d]; exact he
      · rw [if_neg d] at he; simp at he
    rw [if_neg c1] at he ⊢
    by_cases c2 : (t.get! (blk t i)).toNat = 45 ∨ isDg (t.get! (blk t i)) = true
    · rw [if_pos c2] at he ⊢
      exact num_ext h hb he hj
    rw [if_neg c2] at he ⊢
    by_cases c3 : (t.get! (blk t i)).toNat = 91
    · rw [if_pos c3] at he ⊢
      exact list_ext h (val_in t f) (fun i hi => val_ext h f i hi) hb he
    rw [if_neg c3] at he ⊢
    by_cases c4 : (t.get! (blk t i)).toNat = 123
    · rw [if_pos c4] at he ⊢
      exact obj_ext h (val_in t f) (fun i hi => val_ext h f i hi) hb he
    rw [if_neg c4] at he ⊢
    exact word_ext h hb he
end Go.Proofs.YtbinmhcjadkmgaaDoor

/- JsonBlanks, walked. -/
set_option linter.unusedVariables false
set_option linter.unusedSimpArgs false
namespace Go.Proofs.YtbinmhcjadkmgaaDoor
open Go.RowKit
theorem valG_blk {s : ByteArray} {i j : Nat} (h : blk s i = blk s j) : ∀ f, valG s f i = valG s f j := fun f => by
  cases f <;> (unfold valG; rw [h])
theorem blks_run {s : ByteArray} : ∀ (l : List UInt8) (i : Nat) (r : List UInt8), s.data.toList.drop i = l ++ r → (∀ c ∈ l, isBl c.toNat = true) → blk s i = blk s (i + l.length)
  | [], i, r, _, _ => rfl
  | c :: t, i, r, h, hl => by
    obtain ⟨q1, q2, q3⟩ := drop_some s i c (t ++ r) h
    have := blk_step q1 (by rw [q2]; exact hl c (by simp))
    rw [← this, blks_run t (i + 1) r q3 fun x hx => hl x (by simp [hx])]
    simp only [List.length_cons]
    congr 1
    omega
theorem kb_bl : ∀ c : Fin 256, (isBl c.val = true → kb (UInt8.ofNat c.val) = 9) ∧ (isBl c.val = true → isDg (UInt8.ofNat c.val) = false) := by decide +kernel
theorem kb_bl' {c : UInt8} (h : isBl c.toNat = true) : kb c = 9 ∧ isDg c = false := by
  have := kb_bl ⟨c.toNat, c.toNat_lt⟩
  rw [show UInt8.ofNat c.toNat = c by simp] at this
  exact ⟨this.1 h, this.2 h⟩
theorem dl_blanks {B : List UInt8} (hB : ∀ c ∈ B, isBl c.toNat = true) (r : List UInt8) (hr : Dl r) : Dl (B ++ r) := by
  intro c hc
  cases B with
  | nil => exact hr c hc
  | cons x t => simp at hc; subst hc; exact (kb_bl' (hB x (by simp))).2
/-- A right value's JSON between blanks. -/
theorem val_blank {a : Va} (hR : a.R 12) (hW : a.W) {B r : List UInt8} (hB : ∀ c ∈ B, isBl c.toNat = true) (hr : Dl r) {s : ByteArray} (h : s.data.toList = B ++ (a.js ++ (B ++ r))) :
    valG s 12 0 = .ok a (B.length + a.js.length) ∧ blk s (B.length + a.js.length) = blk s (B.length + a.js.length + B.length) ∧ s.data.toList.drop (B.length + a.js.length + B.length) = r := by
  have e0 : s.data.toList.drop 0 = B ++ (a.js ++ (B ++ r)) := by simpa using h
  have e1 : s.data.toList.drop B.length = a.js ++ (B ++ r) := by have := drop_add (i := 0) e0; simpa using this
  have e2 : s.data.toList.drop (B.length + a.js.length) = B ++ r := drop_add e1
  have e3 : s.data.toList.drop (B.length + a.js.length + B.length) = r := drop_add e2
  refine ⟨?_, blks_run B _ r e2 hB, e3⟩
  rw [valG_blk (j := B.length) (by have := blks_run B 0 _ e0 hB; simpa using this)]
  exact val_js s a 12 12 B.length (B ++ r) hR hW (Nat.le_refl _) e1 (dl_blanks hB r hr)
theorem parse_blank {a : Va} (hR : a.R 12) (hW : a.W) {B : List UInt8} (hB : ∀ c ∈ B, isBl c.toNat = true) {s : ByteArray} (h : s.data.toList = B ++ (a.js ++ B)) : parseG s = (a, -1, 0) := by
  obtain ⟨q1, q2, q3⟩ := val_blank hR hW hB (r := []) (fun c hc => by simp at hc) (s := s) (by rw [h]; simp)
  have q4 := drop_end q3
  have q5 := blk_ge s (B.length + a.js.length + B.length)
  unfold parseG
  rw [q1]
  simp only [if_neg (show ¬ blk s (B.length + a.js.length) < s.size by omega)]
theorem parse_tail {a : Va} (hR : a.R 12) (hW : a.W) {B : List UInt8} (hB : ∀ c ∈ B, isBl c.toNat = true) {s : ByteArray} (h : s.data.toList = B ++ (a.js ++ (B ++ [93]))) : parseG s = (leafV 0 0, ((B.length + a.js.length + B.length : Nat) : Int), 4) := by
  obtain ⟨q1, q2, q3⟩ := val_blank hR hW hB (r := [93]) (fun c hc => by simp at hc; subst hc; decide) h
  have q4 := blk_non q3 (by decide)
  have q5 := (drop_some s _ 93 [] q3).1
  unfold parseG
  rw [q1]
  simp only [if_pos (show blk s (B.length + a.js.length) < s.size by omega)]
  rw [q2, q4]
/-- What stands ahead of a list's or an object's end is none. -/
theorem parse_cut {k n : Int} {x : ByteArray} {l : List Va} {ks : List ByteArray} {f : List Va} (hR : (Va.mk k n x l ks f).R 12) (hW : (Va.mk k n x l ks f).W) (hk : 4 ≤ k) {t s : ByteArray} (hs : s.data.toList = (Va.mk k n x l ks f).js) (m : Nat) (hm : m < s.size) (ht : t.data.toList = s.data.toList.take m) :
    ∃ (er : Int) (bd : Nat), parseG t = (leafV 0 0, (bd : Int), er) ∧ er ≠ 0 ∧ bd ≤ m := by
  have hts : t.size = m := by rw [Lib.size_eq, ht, List.length_take, ← Lib.size_eq]; omega
  have hbg : Bgn t s := ⟨s.data.toList.drop m, by rw [ht, List.take_append_drop]⟩
  have hvs : valG s 12 0 = .ok (Va.mk k n x l ks f) s.size := by
    have := val_js s _ 12 12 0 [] hR hW (Nat.le_refl _) (by simpa using hs) (fun c hc => by simp at hc)
    rw [this, Lib.size_eq, hs]
    simp
  have hin := val_in t 12 0 (by omega)
  cases hv : valG t 12 0 with
  | no er bd =>
    rw [hv] at hin
    refine ⟨er, bd, by unfold parseG; rw [hv], hin.1, by have := hin.2; omega⟩
  | ok a' j =>
    exfalso
    rw [hv] at hin
    have hj : j ≤ t.size := hin.2
    have key : valG s 12 0 = .ok a' j := by
      have h0 : s.get! 0 = t.get! 0 := hbg.get (by have := hin.1; omega)
      have hc : ∃ c r, s.data.toList = c :: r ∧ (c = 91 ∨ c = 123) := by
        have h5 : k ≤ 5 := by simp only [Va.R] at hR; exact hR.2.1.k5
        rcases (by omega : k = 4 ∨ k = 5) with h | h
        · exact ⟨91, _, by rw [hs, js_list h], .inl rfl⟩
        · exact ⟨123, _, by rw [hs, js_obj h], .inr rfl⟩
      obtain ⟨c, r, hc, hcc⟩ := hc
      have hd : s.data.toList.drop 0 = c :: r := by simpa using hc
      have hnb : isBl c.toNat = false := by rcases hcc with h | h <;> subst h <;> decide
      obtain ⟨g1, g2, -⟩ := drop_some s 0 c r hd
      have b1 : blk s 0 = 0 := blk_non hd hnb
      have b2 : blk t 0 = 0 := blk_stop fun q => by rw [← h0, g2] at q; rw [hnb] at q; exact absurd q.2 (by simp)
      have ht0 : 0 < t.size := by have := hin.1; omega
      rw [show (12 : Nat) = 11 + 1 from rfl] at hv ⊢
      unfold valG at hv ⊢
      rw [b2, if_neg (by omega), ← h0, g2] at hv
      rw [b1, if_neg (by omega), g2]
      rcases hcc with h | h
      · subst h
        rw [if_neg (by decide), if_neg (by decide), if_pos (by decide)] at hv ⊢
        exact list_ext hbg (fun i hi => val_in t 11 i hi) (fun i hi => val_ext hbg 11 i hi) (by omega) hv
      · subst h
        rw [if_neg (by decide), if_neg (by decide), if_neg (by decide), if_pos (by decide)] at hv ⊢
        exact obj_ext hbg (fun i hi => val_in t 11 i hi) (fun i hi => val_ext hbg 11 i hi) (by omega) hv
    rw [key] at hvs
    injection hvs with _ h2
    omega
end Go.Proofs.YtbinmhcjadkmgaaDoor

/- An argument that is a row of numbers. -/
set_option linter.unusedVariables false
set_option linter.unusedSimpArgs false
namespace Go.Proofs.YtbinmhcjadkmgaaDoor
open Go.ChangeShapes Go.WideShapes Go.ChangeAt Go.RowKit
theorem cellLu {w : World} {p : Addr} {v : Value} (h : w.cell? p = some v) : p.block < w.heap.size := by
  rcases Nat.lt_or_ge p.block w.heap.size with hl | hl
  · exact hl
  · unfold World.cell? at h
    rw [Array.getElem?_eq_none hl] at h
    cases h
def IsInts (k : IntKind) (w : World) (a : Option Addr) (len : Nat) (zs : List Int) : Prop := Rd w a len (zs.map (Value.int k)) ∧ len ≤ maxLen ∧ ∀ z ∈ zs, (Lit.int k z).wf = true
theorem is_ints {H : Type} {enc : TypeId × Value → H} {W : World} {t e : TypeId} {k : IntKind} {a : Option Addr} {len cap : Nat} {d : DataW H} {ps : List MemPlace} (ht : Tryd.prog.underlying t = some (.slice e)) (he : Tryd.prog.underlying e = some (.int k)) (hc : Tryd.prog.cellsOf e = 1)
    (h : DataW.Trod enc Tryd.prog W 0 (fun _ => true) true t (.slice a len cap) d ps) : ∃ zs, IsInts k W a len zs := by
  obtain ⟨fuel, hf⟩ := h
  rcases open_ints ht he hc hf with ⟨hcs, _⟩ | ⟨x, l, c, zs, hcs, _, hl, hm, hz, _, hcell, hwz⟩
  · simp [Value.cells] at hcs
    obtain ⟨rfl, rfl, rfl⟩ := hcs
    exact ⟨[], ⟨rfl, fun h => by omega⟩, Nat.zero_le _, fun z hz => by simp at hz⟩
  · simp [Value.cells] at hcs
    obtain ⟨rfl, rfl, rfl⟩ := hcs
    have hz' : zs.length = cap := by simpa using hz
    refine ⟨zs.take len, ⟨by simp; omega, fun hn => ⟨x, rfl, ?_, fun j u hu => ?_⟩⟩, by omega, fun z hz => hwz z (List.mem_of_mem_take hz)⟩
    · have := cellLu (hcell 0 (by omega)); rwa [adb] at this
    · rw [List.getElem?_map, Option.map_eq_some_iff] at hu
      obtain ⟨z, hz1, rfl⟩ := hu
      rw [List.getElem?_take] at hz1
      split at hz1
      · have hj : j < zs.length := by omega
        rw [hcell j hj, List.getD_eq_getElem?_getD, hz1]; rfl
      · cases hz1
end Go.Proofs.YtbinmhcjadkmgaaDoor

/- JsonBlanks, walked. -/
set_option linter.unusedVariables false
set_option linter.unusedSimpArgs false
namespace Go.Proofs.YtbinmhcjadkmgaaDoor
open Go.RowKit
theorem mod_nat {N : Int} {j : Nat} (hN : (Lit.int .u16 N).wf = true) (hj : j ≠ 0) : ∃ m : Nat, N.tmod (j : Int) = (m : Int) ∧ m < j := by
  simp only [Lit.wf, Bool.and_eq_true, decide_eq_true_eq] at hN
  have h0 : (0 : Int) ≤ N := hN.1
  have h1 : N.tmod (j : Int) = N % (j : Int) := Int.tmod_eq_emod_of_nonneg h0
  have h2 := Int.emod_nonneg N (show (j : Int) ≠ 0 by omega)
  have h3 := Int.emod_lt_of_pos N (show (0 : Int) < (j : Int) by omega)
  exact ⟨(N % (j : Int)).toNat, by omega, by omega⟩
theorem cut_any {a : Va} {h : Hd} {W : World} {S : Nat → Prop} (H : Lies W S a h) (hk : 4 ≤ h.k) (hR : a.R 12) (hW : a.W) {t s : ByteArray} (hs : s.data.toList = a.js) (m : Nat) (hm : m < s.size) (ht : t.data.toList = s.data.toList.take m) :
    ∃ (er : Int) (bd : Nat), parseG t = (leafV 0 0, (bd : Int), er) ∧ er ≠ 0 ∧ bd ≤ m := by
  obtain ⟨k, n, x, l, ks, f⟩ := a
  unfold Lies at H
  have : h.k = k := H.1.1
  exact parse_cut hR hW (by omega) hs m hm ht
theorem bl_add {B X : ByteArray} (hB : ∀ c ∈ B.data.toList, isBl c.toNat = true) (hX : X.data.toList.all (fun c => isBl c.toNat) = true) : ∀ c ∈ (B ++ X).data.toList, isBl c.toNat = true := by
  intro c hc
  rw [ByteArray.data_append, Array.toList_append, List.mem_append] at hc
  rcases hc with h | h
  · exact hB c h
  · exact List.all_eq_true.1 hX c h
set_option maxHeartbeats 1000000 in
set_option maxRecDepth 100000 in
theorem JsonBlanks.walk (W : World) (hT : Tabs5 W) (a : Va) (h : Hd) (H : Lies W (fun _ => True) a h) (A : Option Addr) (n c : Nat) (zs : List Int) (w_z : IsInts .u8 W A n zs) (N : Int) (hN : (Lit.int .u16 N).wf = true) : Calls Tryd.prog 5 #[h.val, .slice A n c, .int .u16 N] W (jends W) := by
  have HT := Lib.hid hT
  have HL := Lib.hid H
  have HW := Lib.hid (lies_W a _ h W H)
  have HZ := Lib.hid w_z
  have HN := Lib.hid hN
  clear hT H w_z hN
  have HB0 := Lib.hid (BoxAt.start W h 25)
  unfold Hd.val
  go_enter Tryd.func5, Tryd.ntmps5
  go_wp2_with fail
  refine (awake_any _ (HT.out.1.go HB0.out.1)).mono ?_
  rintro e w1 ⟨rfl, hb1⟩
  have HB1 := Lib.hid (HB0.out.go hb1 (Nat.le_refl _))
  clear hb1
  have q0 := HB1.out.2.2 0 _ rfl
  have q1 := HB1.out.2.2 1 _ rfl
  have q2 := HB1.out.2.2 2 _ rfl
  have q3 := HB1.out.2.2 3 _ rfl
  have q4 := HB1.out.2.2 4 _ rfl
  have K := few_ref a _ h w1 (HL.out.below HB1.out.1 (Nat.le_refl _))
  unfold Hd.val at K
  have K := Lib.hid K
  go_wp2_with fail
  refine K.out.mono ?_
  rintro e w2 ⟨r, rfl, hr, hb2⟩
  clear K q0 q1 q2 q3 q4
  have HB2 := Lib.hid (HB1.out.go hb2 (Nat.le_refl _))
  clear hb2
  have q0 := HB2.out.2.2 0 _ rfl
  have q1 := HB2.out.2.2 1 _ rfl
  have q2 := HB2.out.2.2 2 _ rfl
  have q3 := HB2.out.2.2 3 _ rfl
  have q4 := HB2.out.2.2 4 _ rfl
  cases r
  · clear hr q0 q1 q2 q3 q4
    go_wp2_with fail
    refine (awake_any _ (HT.out.1.go HB2.out.1)).mono ?_
    rintro e w3 ⟨rfl, hb3⟩
    have HB3 := Lib.hid (HB2.out.go hb3 (Nat.le_refl _))
    clear hb3
    go_wp2_with fail
    go_ret
    exact ⟨rfl, HB3.out.1⟩
  obtain ⟨hsh, hcn⟩ := hr rfl
  have HSH := Lib.hid hsh
  have HCN := Lib.hid hcn
  clear hsh hcn hr
  have K3 := rightref a _ h w2 (HL.out.below HB2.out.1 (Nat.le_refl _)) HSH.out
  unfold Hd.val at K3
  have K3 := Lib.hid K3
  go_wp2_with fail
  refine K3.out.mono ?_
  rintro e w3 ⟨r, rfl, hr, hb3⟩
  clear K3 q0 q1 q2 q3 q4
  have HB3 := Lib.hid (HB2.out.go hb3 (Nat.le_refl _))
  clear hb3
  cases r
  · clear hr
    go_wp2_with fail
    refine (awake_any _ (HT.out.1.go HB3.out.1)).mono ?_
    rintro e w4 ⟨rfl, hb4⟩
    have HB4 := Lib.hid (HB3.out.go hb4 (Nat.le_refl _))
    clear hb4
    go_wp2_with fail
    go_ret
    exact ⟨rfl, HB4.out.1⟩
  have HR := Lib.hid (hr.1 rfl)
  clear hr
  have q0 := HB3.out.2.2 0 _ rfl
  have q1 := HB3.out.2.2 1 _ rfl
  have q2 := HB3.out.2.2 2 _ rfl
  have q3 := HB3.out.2.2 3 _ rfl
  have q4 := HB3.out.2.2 4 _ rfl
  by_cases hk : h.k < 4
  · have hkd : decide (h.k < 4) = true := decide_eq_true hk
    clear hk
    go_wp2_with fail
    refine (awake_any _ (HT.out.1.go HB3.out.1)).mono ?_
    rintro e w4 ⟨rfl, hb4⟩
    have HB4 := Lib.hid (HB3.out.go hb4 (Nat.le_refl _))
    clear hb4 q0 q1 q2 q3 q4
    go_wp2_with fail
    go_ret
    exact ⟨rfl, HB4.out.1⟩
  have hkd : decide (h.k < 4) = false := decide_eq_false hk
  have HK := Lib.hid (show 4 ≤ h.k by omega)
  clear hk
  by_cases hn : 20 < n
  · have hnd : decide ((20 : Int) < (n : Int)) = true := decide_eq_true (by omega)
    clear hn
    go_wp2_with fail
    refine (awake_any _ (HT.out.1.go HB3.out.1)).mono ?_
    rintro e w4 ⟨rfl, hb4⟩
    have HB4 := Lib.hid (HB3.out.go hb4 (Nat.le_refl _))
    clear hb4 q0 q1 q2 q3 q4
    go_wp2_with fail
    go_ret
    exact ⟨rfl, HB4.out.1⟩
  have hnd : decide ((20 : Int) < (n : Int)) = false := decide_eq_false (by omega)
  have HN20 := Lib.hid (show n ≤ 20 by omega)
  clear hn
  obtain ⟨J, hJ⟩ : ∃ J : ByteArray, J = ⟨a.js.toArray⟩ := ⟨_, rfl⟩
  have hlen : J.size ≤ maxLen := by
    rw [hJ, js_bytes]
    have := js_len HR.out HSH.out
    have := HCN.out
    unfold maxLen
    omega
  have hne : J.size ≠ 0 := by rw [hJ, js_bytes]; have := js_nz HR.out; omega
  have K2 := encode_yes a h w3 (HL.out.below HB3.out.1 (Nat.le_refl _)) HR.out HSH.out HCN.out (HT.out.1.go HB3.out.1)
  rw [← hJ] at K2
  unfold Hd.val at K2
  have K2 := Lib.hid K2
  have HJ := Lib.hid hJ
  have HLen := Lib.hid hlen
  have HNE := Lib.hid hne
  have hj0 : ((J.size : Int) == 0) = false := beq_eq_false_iff_ne.2 (by omega)
  clear hJ
  go_wp2_with fail
  refine K2.out.mono ?_
  rintro e w4 ⟨rfl, hb4⟩
  clear K2 q0 q1 q2 q3 q4
  have HB4 := Lib.hid (HB3.out.go hb4 (Nat.le_refl _))
  clear hb4
  by_cases hbig : 3900 < J.size
  · have hd : decide ((3900 : Int) < (J.size : Int)) = true := decide_eq_true (by omega)
    have hd0 : decide (0 < J.size) = true := decide_eq_true (by omega)
    clear hbig hlen hne
    go_wp2_with fail
    go_ret
    exact ⟨rfl, HB4.out.1⟩
  have hd : decide ((3900 : Int) < (J.size : Int)) = false := decide_eq_false (by omega)
  have HBG := Lib.hid (show J.size ≤ 3900 by omega)
  clear hbig hlen hne
  go_wp2_with fail
  go_loopw [9, 10] (fun t i wr => ∃ (k : Nat) (B : ByteArray), k ≤ n ∧ i = .int .i64 k ∧ t = .string B ∧ B.size = k ∧ (∀ c ∈ B.data.toList, isBl c.toNat = true) ∧ BoxAt W wr h) (fun _ i _ => n - (intOf i).toNat)
  case atStart => exact ⟨0, ⟨#[]⟩, Nat.zero_le _, rfl, rfl, rfl, fun c hc => by simp at hc, HB4.out⟩
  case round =>
    obtain ⟨k, B, hk, rfl, rfl, hBs, hBb, hbx⟩ := hrel
    have HBs := Lib.hid hBs
    have HBb := Lib.hid hBb
    have HBX := Lib.hid hbx
    clear hBs hBb hbx
    by_cases hlt : k < n
    · obtain ⟨ad, rfl, _, hcell⟩ := (HZ.out.1.below HBX.out.1 (Nat.le_refl _)).2 (by omega)
      obtain ⟨z, hz⟩ : ∃ z, zs[k]? = some z := ⟨zs[k]'(by have := HZ.out.1.1; simp at this; omega), List.getElem?_eq_getElem _⟩
      have k0 := hcell k (.int .u8 z) (by simp [hz])
      have hz2 : 0 ≤ z ∧ z ≤ 255 := by
        have := HZ.out.2.2 z (List.mem_of_getElem? hz)
        simp only [Lit.wf, Bool.and_eq_true, decide_eq_true_eq] at this
        exact ⟨this.1, this.2⟩
      have hm : z.tmod 4 = 0 ∨ z.tmod 4 = 1 ∨ z.tmod 4 = 2 ∨ z.tmod 4 = 3 := by rw [Int.tmod_eq_emod_of_nonneg hz2.1]; omega
      clear hcell hz hz2
      have HLT := Lib.hid hlt
      have W1 : IntKind.u8.wrap 1 = 1 := rfl
      have W2 : IntKind.u8.wrap 2 = 2 := rfl
      have W3 : IntKind.u8.wrap 3 = 3 := rfl
      have W4 : IntKind.u8.wrap 4 = 4 := rfl
      have hs4 : (⟨#[32, 9, 10, 13]⟩ : ByteArray).size = 4 := rfl
      have E0 : (⟨#[32, 9, 10, 13]⟩ : ByteArray).extract 0 1 = ⟨#[32]⟩ := by decide
      have E1 : (⟨#[32, 9, 10, 13]⟩ : ByteArray).extract 1 2 = ⟨#[9]⟩ := by decide
      have E2 : (⟨#[32, 9, 10, 13]⟩ : ByteArray).extract 2 3 = ⟨#[10]⟩ := by decide
      have E3 : (⟨#[32, 9, 10, 13]⟩ : ByteArray).extract 3 4 = ⟨#[13]⟩ := by decide
      have hB20 : B.size ≤ 20 := by have := HBs.out; have := HN20.out; omega
      have hn20 := HN20.out
      rcases hm with e1 | e1 | e1 | e1
      all_goals
        go_wp2_with fail
        go_quiet (fail)
        go_wp2_with fail
        have hlt := HLT.out
        refine ⟨⟨k + 1, _, by omega, by go_num, rfl, ?_, ?_, HBX.out.go (below_drewN' (Below.refl _ _) nq) (Nat.le_refl _)⟩, by simp [intOf]; omega⟩
        · rw [ByteArray.size_append, HBs.out]; rfl
        · exact bl_add HBb.out (by decide)
    · have hB20 : B.size ≤ 20 := by have := HBs.out; have := HN20.out; omega
      have hJ39 := HBG.out
      obtain ⟨S1, hS1⟩ : ∃ S1, B ++ J ++ B = S1 := ⟨_, rfl⟩
      obtain ⟨S2, hS2⟩ : ∃ S2, S1 ++ ⟨#[93]⟩ = S2 := ⟨_, rfl⟩
      have z1 : S1.size = B.size + J.size + B.size := by rw [← hS1, ByteArray.size_append, ByteArray.size_append]
      have z2 : S2.size = B.size + J.size + B.size + 1 := by rw [← hS2, ByteArray.size_append, z1]; rfl
      have d1 : S1.data.toList = B.data.toList ++ (a.js ++ B.data.toList) := by rw [← hS1, HJ.out]; simp
      have d2 : S2.data.toList = B.data.toList ++ (a.js ++ (B.data.toList ++ [93])) := by rw [← hS2, ByteArray.data_append, Array.toList_append, d1]; simp
      have P1 := Lib.hid (parse_blank HR.out HW.out HBb.out d1)
      have P2 : Hid (parseG S2 = (leafV 0 0, (J.size : Int) + 2 * (B.size : Int), 4)) := Lib.hid (by
        rw [parse_tail HR.out HW.out HBb.out d2, Lib.size_eq J, Lib.size_eq B, HJ.out]
        congr 2
        simp
        omega)
      have K1 := Lib.hid (fun w' (hT : Tabs5 w') => parse_ok S1 w' (by omega) hT.ev)
      have K2 := Lib.hid (fun w' (hT : Tabs5 w') => parse_ok S2 w' (by omega) hT.ev)
      have Z1 := Lib.hid z1
      have Z2 := Lib.hid z2
      have HS1 := Lib.hid hS1
      have HS2 := Lib.hid hS2
      have hz1 : S1.size ≤ 4000 := by omega
      clear z1 z2 d1 d2
      go_wp2_with fail
      refine (K1.out _ (HT.out.go HBX.out.1)).mono ?_
      rintro e w5 ⟨g1, rfl, hb5, hl5⟩
      rw [P1.out] at hl5 ⊢
      have HL5 := Lib.hid hl5
      have HB5 := Lib.hid (HBX.out.go hb5 (Nat.le_refl _))
      clear K1 hb5 hl5
      have HB5 := Lib.hid (HB5.out.go ((Below.refl w5.heap.size w5).alloc (Nat.le_refl _) (Obj.cells #[.int .i64 g1.k, .int .i64 g1.n, .string g1.s, .slice g1.A g1.la g1.lc, .slice g1.F g1.lf g1.fc] 25)) (Nat.le_refl _))
      have HX5 := Lib.hid (Bx.start w5 g1 25)
      have HG5 := Lib.hid (HL5.out.below ((Below.refl w5.heap.size w5).alloc (Nat.le_refl _) (Obj.cells #[.int .i64 g1.k, .int .i64 g1.n, .string g1.s, .slice g1.A g1.la g1.lc, .slice g1.F g1.lf g1.fc] 25)) (Nat.le_refl _))
      go_wp2_with fail
      generalize w5.alloc (Obj.cells #[.int .i64 g1.k, .int .i64 g1.n, .string g1.s, .slice g1.A g1.la g1.lc, .slice g1.F g1.lf g1.fc] 25) = v5 at HB5 HX5 HG5 ⊢
      obtain ⟨Wb, hWb⟩ : ∃ Wb, w5.heap.size = Wb := ⟨_, rfl⟩
      rw [hWb] at HX5 ⊢
      clear hWb
      refine (K2.out _ (HT.out.go HB5.out.1)).mono ?_
      rintro e w6 ⟨g2, rfl, hb6, hl6⟩
      rw [P2.out]
      have HB6 := Lib.hid (HB5.out.go hb6 (Nat.le_refl _))
      have HX6 := Lib.hid (HX5.out.go hb6 HX5.out.1)
      have HG6 := Lib.hid (HG5.out.below hb6 (Nat.le_refl _))
      clear K2 hb6 hl6
      obtain ⟨m, em, hmj⟩ : ∃ m : Nat, N.tmod (J.size : Int) = (m : Int) ∧ m < J.size := mod_nat HN.out HNE.out
      obtain ⟨T, hT⟩ : ∃ T, J.extract 0 m = T := ⟨_, rfl⟩
      have hmle : m ≤ J.size := by omega
      have dT : T.data.toList = J.data.toList.take m := by rw [← hT, Lib.extract_data]; simp
      have P3 := cut_any HL.out HK.out HR.out HW.out (s := J) (by rw [HJ.out]) m hmj dT
      have HTs := Lib.hid (show T.size ≤ 4000 by rw [← hT, ByteArray.size_extract]; omega)
      have HDT := Lib.hid dT
      have HP3 := Lib.hid P3
      have hN2 : 0 ≤ N ∧ N ≤ 65535 := by
        have := HN.out
        simp only [Lit.wf, Bool.and_eq_true, decide_eq_true_eq] at this
        exact ⟨this.1, this.2⟩
      have hne := HNE.out
      have hm0 : (0 : Int) ≤ (m : Int) ∧ (m : Int) ≤ (J.size : Int) := by omega
      clear P3 dT hmj
      have HB6 := Lib.hid (HB6.out.go ((Below.refl w6.heap.size w6).alloc (Nat.le_refl _) (Obj.cells #[.int .i64 g2.k, .int .i64 g2.n, .string g2.s, .slice g2.A g2.la g2.lc, .slice g2.F g2.lf g2.fc] 25)) (Nat.le_refl _))
      have HX6 := Lib.hid (HX6.out.alloc (Obj.cells #[.int .i64 g2.k, .int .i64 g2.n, .string g2.s, .slice g2.A g2.la g2.lc, .slice g2.F g2.lf g2.fc] 25))
      have HG6 := Lib.hid (HG6.out.below ((Below.refl w6.heap.size w6).alloc (Nat.le_refl _) (Obj.cells #[.int .i64 g2.k, .int .i64 g2.n, .string g2.s, .slice g2.A g2.la g2.lc, .slice g2.F g2.lf g2.fc] 25)) (Nat.le_refl _))
      go_wp2_with fail
      generalize w6.alloc (Obj.cells #[.int .i64 g2.k, .int .i64 g2.n, .string g2.s, .slice g2.A g2.la g2.lc, .slice g2.F g2.lf g2.fc] 25) = v6 at HB6 HX6 HG6 ⊢
      refine (parse_ok T v6 HTs.out (HT.out.go HB6.out.1).ev).mono ?_
      rintro e w7 ⟨g3, rfl, hb7, hl7⟩
      obtain ⟨er, bd, hp3, he3, hbd⟩ := HP3.out
      rw [hp3]
      have hen : (er != 0) = true := by simpa using he3
      have hbm : decide (bd ≤ m) = true := decide_eq_true hbd
      have hb0 : decide ((0 : Int) ≤ (bd : Int)) = true := decide_eq_true (by omega)
      have HB7 := Lib.hid ((HB6.out.go hb7 (Nat.le_refl _)).go ((Below.refl w7.heap.size w7).alloc (Nat.le_refl _) (Obj.cells #[.int .i64 g3.k, .int .i64 g3.n, .string g3.s, .slice g3.A g3.la g3.lc, .slice g3.F g3.lf g3.fc] 25)) (Nat.le_refl _))
      have HX7 := Lib.hid ((HX6.out.go hb7 HX6.out.1).alloc (Obj.cells #[.int .i64 g3.k, .int .i64 g3.n, .string g3.s, .slice g3.A g3.la g3.lc, .slice g3.F g3.lf g3.fc] 25))
      have HG7 := Lib.hid ((HG6.out.below hb7 (Nat.le_refl _)).below ((Below.refl w7.heap.size w7).alloc (Nat.le_refl _) (Obj.cells #[.int .i64 g3.k, .int .i64 g3.n, .string g3.s, .slice g3.A g3.la g3.lc, .slice g3.F g3.lf g3.fc] 25)) (Nat.le_refl _))
      clear hb7 hl7 hp3 he3 hbd
      have K6 := same_ref a a _ _ h g1 _ (HL.out.below HB7.out.1 (Nat.le_refl _)) HG7.out
      unfold Hd.val at K6
      have K6 := Lib.hid K6
      have q0 := HB7.out.2.2 0 _ rfl
      have q1 := HB7.out.2.2 1 _ rfl
      have q2 := HB7.out.2.2 2 _ rfl
      have q3 := HB7.out.2.2 3 _ rfl
      have q4 := HB7.out.2.2 4 _ rfl
      have p0 := HX7.out.2 0 _ rfl
      have p1 := HX7.out.2 1 _ rfl
      have p2 := HX7.out.2 2 _ rfl
      have p3 := HX7.out.2 3 _ rfl
      have p4 := HX7.out.2 4 _ rfl
      go_wp2_with fail
      refine K6.out.mono ?_
      rintro e w8 ⟨r, rfl, hr, hb8⟩
      obtain rfl : r = true := hr.2 rfl
      have HB8 := Lib.hid (HB7.out.go hb8 (Nat.le_refl _))
      clear K6 hr hb8 q0 q1 q2 q3 q4 p0 p1 p2 p3 p4
      go_wp2_with fail
      go_ret
      exact ⟨rfl, HB8.out.1⟩
end Go.Proofs.YtbinmhcjadkmgaaDoor
