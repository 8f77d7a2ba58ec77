/- tree.sorted's closure, walked. -/
import Derived.Test.YtlhmdbloddpfbaaTAlkN
import Derived.Test.YtlhmdbloddpfbaaTProgC
set_option linter.unusedVariables false
set_option linter.unusedSimpArgs false
namespace Go.Proofs.Ytlhmdbloddpfbaa
open Go.RowKit
/-- What slices.SortFunc does to pairs. -/
def SortP : Prop := ∀ (blk cap : Nat) (d : Array El) (w : World), Go.Sort.HoldsK encE 6 w blk 0 d → blk < w.heap.size → d.size < 4611686018427387904 →
  Calls Try.prog 87 #[.slice (some ⟨blk, 0, none⟩) d.size cap, .func (.func 88) #[] #[]] w fun e w' => e = .returned (.tuple #[]) ∧ ∃ (d' : Array El) (m : Nat) (os : Array Obj), d'.toList.Perm d.toList ∧ Go.Sort.SortedIn (Go.Proofs.ltOf cfE) 0 d.size d' ∧ w' = Go.Proofs.sortWorldK encE 6 w blk 0 m d' os
abbrev closO (C : Nat) : Value := .func (.func 86) #[] #[.pointer (some ⟨C, 0, none⟩)]
/-- Where the walk stands: the value, its box, the closure's variable. -/
structure Od (w : World) (T : Nat → Prop) (h : Hd) (C : Nat) (a : Va) (wr : World) : Prop where
  own : Own wr a T h
  out : OutK T w wr
  box : Bx wr w.heap.size h
  clos : wr.cell? ⟨C, 0, none⟩ = some (closO C)
theorem Od.go {w wr w' : World} {T : Nat → Prop} {h : Hd} {C : Nat} {a : Va} (H : Od w T h C a wr) (hT : ∀ b, T b → b < w.heap.size) (hb : Below wr.heap.size wr w') : Od w T h C a w' :=
  ⟨Own.keep _ _ _ H.own fun b q => hb.block b (Nat.lt_of_lt_of_le (hT b q) H.out.size), H.out.trans (OutK.of_below hb), H.box.go hb H.box.1, (hb.cell (p := ⟨C, 0, none⟩) (World.block_lt_of_cell? wr _ H.clos)).trans H.clos⟩
theorem Od.turn {w wr w' : World} {T Ti : Nat → Prop} {h : Hd} {C : Nat} {a a' : Va} (H : Od w T h C a wr) (hT : ∀ b, T b → b < w.heap.size) (hC : ¬ T C) (ho : OutK Ti wr w') (hTi : ∀ b, Ti b → T b) (hown : Own w' a' T h) : Od w T h C a' w' := by
  have h1 := H.box.1
  have h2 := ho.size
  refine ⟨hown, H.out.trans (ho.mono hTi), ⟨by omega, fun j c hc => ?_⟩, ?_⟩
  · exact (World.cell?_of_block (a := ⟨w.heap.size, j, none⟩) (ho.block _ h1 (fun q => Nat.lt_irrefl _ (hT _ (hTi _ q))))).trans (H.box.2 j c hc)
  · exact (World.cell?_of_block (a := ⟨C, 0, none⟩) (ho.block _ (World.block_lt_of_cell? wr _ H.clos) (fun q => hC (hTi _ q)))).trans H.clos
theorem Od.start {w : World} {T : Nat → Prop} {h : Hd} {C : Nat} {a : Va} (H : Own w a T h) (hT : ∀ b, T b → b < w.heap.size) (hc : w.cell? ⟨C, 0, none⟩ = some (closO C)) : Od w T h C a (w.alloc (Obj.cells #[.int .i64 h.k, .int .i64 h.n, .string h.s, .slice h.A h.la h.lc, .slice h.F h.lf h.fc] 25)) :=
  ⟨Own.keep _ _ _ H fun b q => Below.heap_alloc _ _ _ (hT b q), OutK.of_below (one_alloc w _), Bx.start w h 25, ((one_alloc w _).cell (p := ⟨C, 0, none⟩) (World.block_lt_of_cell? w _ hc)).trans hc⟩
theorem srt_none {k n : Int} {s : ByteArray} {l : List Va} {ks : List ByteArray} {f : List Va} (h : f.length = 0) (e : ks.length = f.length) : (Va.mk k n s l ks f).srt = .mk k n s (srtL l) ks (srtL f) := by
  obtain rfl : f = [] := List.length_eq_zero_iff.1 h
  obtain rfl : ks = [] := List.length_eq_zero_iff.1 (e.trans h)
  simp [Va.srt, srtL, srtP]
theorem srt_some {k n : Int} {s : ByteArray} {l : List Va} {ks : List ByteArray} {f : List Va} {d' : Array El} (h : d'.toList.map (fun e => (e.key, e.x)) = srtP (ks.zip (srtL f))) : (Va.mk k n s l ks f).srt = .mk k n s (srtL l) (d'.toList.map El.key) (d'.toList.map El.x) := by
  simp only [Va.srt, ← h, List.map_map]
  rfl
theorem rise_of {d d' : Array El} {ps : List (ByteArray × Va)} (hp : d'.toList.Perm d.toList) (hs : Go.Sort.SortedIn (Go.Proofs.ltOf cfE) 0 d.size d') (he : d.toList.map (fun e => (e.key, e.x)) = ps) (hn : (ps.map Prod.fst).Nodup) : d'.toList.map (fun e => (e.key, e.x)) = srtP ps := by
  have hsz : d'.size = d.size := by simpa using hp.length_eq
  have hpm : (d'.toList.map (fun e => (e.key, e.x))).Perm ps := by rw [← he]; exact hp.map _
  refine sort_one hpm ?_ hn
  have hnd : ((d'.toList.map (fun e => (e.key, e.x))).map Prod.fst).Nodup := (hpm.map Prod.fst).nodup_iff.2 hn
  unfold Rise
  rw [List.pairwise_map, List.pairwise_iff_getElem]
  intro i j hi hj hij
  have hi' : i < d'.size := by simpa using hi
  have hj' : j < d'.size := by simpa using hj
  have h1 := hs i j (Nat.zero_le _) hij (by omega)
  rw [ltE, getElem!_pos d' i hi', getElem!_pos d' j hj'] at h1
  show lessB d'.toList[i].key d'.toList[j].key = true
  rw [Array.getElem_toList, Array.getElem_toList]
  cases h2 : lessB d'[i].key d'[j].key
  · exfalso
    have heq := lessB_one h2 h1
    rw [List.Nodup, List.pairwise_iff_getElem] at hnd
    refine hnd i j (by simpa using hi') (by simpa using hj') hij ?_
    simpa using heq
  · rfl
set_option maxHeartbeats 2000000 in
set_option maxRecDepth 100000 in
theorem order_any (hS : SortP) : ∀ (a : Va) (T : Nat → Prop) (h : Hd) (w : World) (C : Nat), Own w a T h → (∀ b, T b → b < w.heap.size) → a.cnt ≤ 1000 → (∃ d, a.R d) → w.cell? ⟨C, 0, none⟩ = some (closO C) → ¬ T C →
    Calls Try.prog 86 #[h.val, .pointer (some ⟨C, 0, none⟩)] w fun e w' => e = .returned (.tuple #[]) ∧ Own w' a.srt T h ∧ OutK T w w' := by
  intro a
  induction a using Va.ind with
  | h k nn s l ks f ihl ihf =>
  intro T h w C H hT hcn hR hcl hC
  have HSO := Lib.hid hS
  clear hS
  simp only [Va.cnt] at hcn
  have hl1 := len_le_cntL l
  have hf1 := len_le_cntL f
  obtain ⟨dd, hR⟩ := hR
  simp only [Va.R] at hR
  obtain ⟨-, -, hKP, hRL, hRF⟩ := hR
  have HL := Own.lies _ _ _ H
  simp only [Lies] at HL
  obtain ⟨⟨e1, e2, e3, e4, e5, e6⟩, -, -, -⟩ := HL
  have HOD := Lib.hid (Od.start H hT hcl)
  have HT := Lib.hid hT
  have HC := Lib.hid hC
  have HKP := Lib.hid hKP
  have E6 := Lib.hid e6
  have HRL := Lib.hid hRL
  have HRF := Lib.hid hRF
  clear H hT hC hKP hRL hRF e1 e2 e3 e6 hcl
  obtain ⟨hk, hnn, hs, A, la, lc, F, lf, fc⟩ := h
  simp only at e4 e5
  subst e4 e5
  unfold Hd.val
  simp only
  go_enter Try.func86, Try.ntmps86
  have cA := HOD.out.box.2 3 _ rfl
  go_wp2_with fail
  clear cA
  go_loopw [10] (fun iv wr => ∃ i : Nat, iv = .int .i64 i ∧ i ≤ l.length ∧ Od w T ⟨hk, hnn, hs, A, l.length, lc, F, f.length, fc⟩ C (.mk k nn s (mixL l i) ks f) wr) (fun iv _ => l.length - (intOf iv).toNat)
  case atStart => exact ⟨0, rfl, Nat.zero_le _, by rw [mixL_zero]; exact HOD.out⟩
  case round =>
    obtain ⟨i, rfl, hi, hO⟩ := hrel
    have HO := Lib.hid hO
    have cF := hO.box.2 4 _ rfl
    have hcc := hO.clos
    have hcw : C < wr.heap.size := World.block_lt_of_cell? wr _ hcc
    have hTr : ∀ b, T b → b < wr.heap.size := fun b q => Nat.lt_of_lt_of_le (HT.out b q) hO.out.size
    clear hO HOD
    by_cases hlt : i < l.length
    · obtain ⟨ad, u, Ti, eA, hab, hat, hox, hTi, hback⟩ := HO.out.own.atL hTr (mixL_get (List.getElem?_eq_getElem hlt))
      simp only at eA
      subst eA
      obtain ⟨k0, k1, k2, k3, k4⟩ := hat
      have HCAL := Lib.hid (ihl l[i] (List.getElem_mem hlt) Ti u (wr.alloc (Obj.cells #[.int .i64 u.k, .int .i64 u.n, .string u.s, .slice u.A u.la u.lc, .slice u.F u.lf u.fc] 25)) C (Own.keep _ _ _ hox fun b q => Below.heap_alloc _ _ _ (hTr b (hTi b q))) (fun b q => by have := hTr b (hTi b q); simp; omega) (by have := cntL_mem (List.getElem_mem hlt); omega) ⟨_, RL_mem HRL.out (List.getElem_mem hlt)⟩ (((one_alloc wr _).cell (p := ⟨C, 0, none⟩) hcw).trans hcc) (fun q => HC.out (hTi _ q)))
      have HBK := Lib.hid hback
      have HTI := Lib.hid hTi
      have HST := Lib.hid (mixL_step (List.getElem?_eq_getElem hlt))
      clear hox hTi hback ihl ihf hTr
      unfold Hd.val at HCAL
      go_wp2_with fail
      refine HCAL.out.mono ?_
      rintro e w2 ⟨rfl, hown2, ho2⟩
      have HO2 := Lib.hid ((OutK.of_below (one_alloc wr (Obj.cells #[.int .i64 u.k, .int .i64 u.n, .string u.s, .slice u.A u.la u.lc, .slice u.F u.lf u.fc] 25))).trans ho2)
      have HW2 := Lib.hid hown2
      clear hown2 ho2 HCAL k0 k1 k2 k3 k4 cF hcc
      go_wp2_with fail
      exact ⟨⟨i + 1, by go_num, by omega, HO.out.turn HT.out HC.out HO2.out HTI.out (by rw [← HST.out]; exact HBK.out w2 _ HO2.out HW2.out)⟩, by simp [intOf]; omega⟩
    · have hie : i = l.length := by omega
      subst hie
      clear ihl
      have HO1 : Hid (Od w T ⟨hk, hnn, hs, A, l.length, lc, F, f.length, fc⟩ C (.mk k nn s (srtL l) ks f) wr) := by have := HO.out; rw [mixL_all] at this; exact this
      clear HO hTr
      go_wp2_with fail
      clear cF hcc hcw
      go_loopw [21] (fun iv wt => ∃ i : Nat, iv = .int .i64 i ∧ i ≤ f.length ∧ Od w T ⟨hk, hnn, hs, A, l.length, lc, F, f.length, fc⟩ C (.mk k nn s (srtL l) ks (mixL f i)) wt) (fun iv _ => f.length - (intOf iv).toNat)
      case atStart => exact ⟨0, rfl, Nat.zero_le _, by rw [mixL_zero]; exact HO1.out⟩
      case round =>
        obtain ⟨i, rfl, hi', hO⟩ := hrel
        have HO := Lib.hid hO
        have cF := hO.box.2 4 _ rfl
        have hcc := hO.clos
        have hcw : C < wr.heap.size := World.block_lt_of_cell? wr _ hcc
        have hTr : ∀ b, T b → b < wr.heap.size := fun b q => Nat.lt_of_lt_of_le (HT.out b q) hO.out.size
        clear hO HO1
        by_cases hlt : i < f.length
        · obtain ⟨ad, u, Ti, key, eF, hab, hat, hox, hTi, hback⟩ := HO.out.own.atF hTr (mixL_get (List.getElem?_eq_getElem hlt))
          simp only at eF
          subst eF
          obtain ⟨k0, k1, k2, k3, k4, k5⟩ := hat
          have HCAL := Lib.hid (ihf f[i] (List.getElem_mem hlt) Ti u (wr.alloc (Obj.cells #[.string key, .int .i64 u.k, .int .i64 u.n, .string u.s, .slice u.A u.la u.lc, .slice u.F u.lf u.fc] 36)) C (Own.keep _ _ _ hox fun b q => Below.heap_alloc _ _ _ (hTr b (hTi b q))) (fun b q => by have := hTr b (hTi b q); simp; omega) (by have := cntL_mem (List.getElem_mem hlt); omega) ⟨_, RL_mem HRF.out (List.getElem_mem hlt)⟩ (((one_alloc wr _).cell (p := ⟨C, 0, none⟩) hcw).trans hcc) (fun q => HC.out (hTi _ q)))
          have HBK := Lib.hid hback
          have HTI := Lib.hid hTi
          have HST := Lib.hid (mixL_step (List.getElem?_eq_getElem hlt))
          clear hox hTi hback ihf hTr
          unfold Hd.val at HCAL
          go_wp2_with fail
          refine HCAL.out.mono ?_
          rintro e w2 ⟨rfl, hown2, ho2⟩
          have HO2 := Lib.hid ((OutK.of_below (one_alloc wr (Obj.cells #[.string key, .int .i64 u.k, .int .i64 u.n, .string u.s, .slice u.A u.la u.lc, .slice u.F u.lf u.fc] 36))).trans ho2)
          have HW2 := Lib.hid hown2
          clear hown2 ho2 HCAL k0 k1 k2 k3 k4 k5 cF hcc
          go_wp2_with fail
          exact ⟨⟨i + 1, by go_num, by omega, HO.out.turn HT.out HC.out HO2.out HTI.out (by rw [← HST.out]; exact HBK.out w2 _ HO2.out HW2.out)⟩, by simp [intOf]; omega⟩
        · have hie : i = f.length := by omega
          subst hie
          have HO1 : Hid (Od w T ⟨hk, hnn, hs, A, l.length, lc, F, f.length, fc⟩ C (.mk k nn s (srtL l) ks (srtL f)) wr) := by have := HO.out; rw [mixL_all] at this; exact this
          clear HO ihf hcc hcw
          by_cases hz : f.length = 0
          · have hE := srt_none (k := k) (n := nn) (s := s) (l := l) hz E6.out
            have HE := Lib.hid hE
            have hcf : wr.cell? ⟨w.heap.size, 4, none⟩ = some (.slice F 0 fc) := by rw [← hz]; exact cF
            clear cF hE
            go_wp2_with fail
            refine (sortf_none F fc _ wr).mono ?_
            rintro e w2 ⟨rfl, rfl⟩
            go_wp2_with fail
            go_end0
            exact ⟨rfl, by rw [HE.out]; exact HO1.out.own, HO1.out.out⟩
          · obtain ⟨g, d, eF, hTg, hds, hH, hpz, hback⟩ := HO1.out.own.sortF hTr (by rw [srtL_length]; omega)
            simp only at eF
            subst eF
            rw [srtL_length] at hds
            have hcal := HSO.out g fc d wr hH (hTr g hTg) (by omega)
            rw [hds] at hcal
            have HCAL := Lib.hid hcal
            have HBK := Lib.hid hback
            have HPZ := Lib.hid hpz
            have HDS := Lib.hid hds
            have HTG := Lib.hid hTg
            clear hH hcal hback hpz hds hTg hTr
            go_wp2_with fail
            refine HCAL.out.mono ?_
            rintro e w2 ⟨rfl, d', m, os, hp, hso, hw2⟩
            have hr := rise_of hp (by rw [HDS.out]; exact hso) HPZ.out (by rw [zip_fst (by rw [srtL_length]; exact E6.out)]; exact HKP.out.2)
            have HOW := Lib.hid (show Own w2 (Va.mk k nn s l ks f).srt T ⟨hk, hnn, hs, A, l.length, lc, some ⟨g, 0, none⟩, f.length, fc⟩ by rw [srt_some hr, hw2]; exact HBK.out d' m os hp)
            have HOO := Lib.hid (show OutK T wr w2 by rw [hw2]; exact sw_out HTG.out)
            clear hw2 hr hso hp
            go_wp2_with fail
            go_end0
            exact ⟨rfl, HOW.out, HO1.out.out.trans HOO.out⟩
end Go.Proofs.Ytlhmdbloddpfbaa
