/- Where a path leads: member and follow. -/
import Derived.Test.YtmdlcalnncncjaaPRefV
import Derived.Test.YtmdlcalnncncjaaPQuiet
import Derived.Test.YtmdlcalnncncjaaTPlace
set_option linter.unusedVariables false
set_option linter.unusedSimpArgs false
namespace Go.Proofs.Ytmdlcalnncncjaa
open Go.RowKit
/-- The place of a key. -/
def kIdx : List ByteArray → ByteArray → Option Nat
  | [], _ => none
  | x :: r, key => if x = key then some 0 else (kIdx r key).map (· + 1)
theorem kIdx_none : ∀ {ks : List ByteArray} {key : ByteArray}, kIdx ks key = none ↔ key ∉ ks
  | [], key => by simp [kIdx]
  | x :: r, key => by
    simp only [kIdx]
    by_cases h : x = key
    · simp [h]
    · rw [if_neg h, Option.map_eq_none_iff, kIdx_none]
      have h2 : ¬ key = x := fun e => h e.symm
      simp [h2]
theorem kIdx_some : ∀ {ks : List ByteArray} {key : ByteArray} {i : Nat}, kIdx ks key = some i → ks[i]? = some key ∧ key ∉ ks.take i
  | [], key, i, h => by simp [kIdx] at h
  | x :: r, key, i, h => by
    simp only [kIdx] at h
    by_cases e : x = key
    · rw [if_pos e] at h
      cases h
      simp [e]
    · rw [if_neg e, Option.map_eq_some_iff] at h
      obtain ⟨j, hj, rfl⟩ := h
      have := kIdx_some hj
      have h2 : ¬ key = x := fun q => e q.symm
      simp [this.1, this.2, h2]
/-- A place as a number; -1: none. -/
def mI : Option Nat → Int
  | some i => (i : Int)
  | none => -1
theorem PlaceP.kIdx {ks : List ByteArray} {key : ByteArray} {n : Int} (h : PlaceP ks key n) : n = mI (kIdx ks key) := by
  refine h.uniq ?_
  cases hk : Proofs.Ytmdlcalnncncjaa.kIdx ks key with
  | none => exact .inl ⟨rfl, kIdx_none.1 hk⟩
  | some i => exact .inr ⟨i, rfl, (kIdx_some hk).1, (kIdx_some hk).2⟩
/-- Which one a step leads to. -/
def subI : Va → St → Option Nat
  | .mk k _ _ l ks _, s => if s.i = true then (if k = 4 ∧ s.a < (l.length : Int) then some s.a.toNat else none) else (if k = 5 then kIdx ks s.k else none)
def subV : Va → St → Option Va
  | .mk k n t l ks f, s => match subI (.mk k n t l ks f) s with
    | some i => if s.i = true then l[i]? else f[i]?
    | none => none
/-- Where a path leads to. -/
def goV : Va → List St → Option Va
  | a, [] => some a
  | a, s :: p => match subV a s with
    | some x => goV x p
    | none => none
theorem subI_lt {k n : Int} {t : ByteArray} {l : List Va} {ks : List ByteArray} {f : List Va} {s : St} {i : Nat} (hkl : ks.length = f.length) (hs : StR s) (h : subI (.mk k n t l ks f) s = some i) : (s.i = true → i < l.length ∧ k = 4) ∧ (s.i = false → i < f.length ∧ k = 5) := by
  simp only [subI] at h
  rcases hs with ⟨e, _, h0, _⟩ | ⟨e, _⟩
  · rw [if_pos e] at h
    split at h
    · rename_i hc
      cases h
      exact ⟨fun _ => ⟨by omega, hc.1⟩, (fun h => by rw [e] at h; cases h)⟩
    · cases h
  · rw [if_neg (by rw [e]; decide)] at h
    split at h
    · rename_i hc
      have := (List.getElem?_eq_some_iff.1 (kIdx_some h).1).1
      exact ⟨(fun h => by rw [e] at h; cases h), fun _ => ⟨by omega, hc⟩⟩
    · cases h
set_option maxHeartbeats 400000 in
theorem pm1_any (s : St) (k2 : ByteArray) (u : Hd) (w : World) (K : Nat) (ha : s.a = 0) (hi : s.i = false) (hK : At3 w ⟨K, 0, none⟩ s) :
    Calls Try.prog 138 #[.agg #[.string k2, .int .i64 u.k, .int .i64 u.n, .string u.s, .slice u.A u.la u.lc, .slice u.F u.lf u.fc], .pointer (some ⟨K, 0, none⟩)] w fun e w' => YesNo (k2 = s.k) w e w' := by
  obtain ⟨sk, sa, si⟩ := s
  simp only at ha hi ⊢
  subst ha hi
  obtain ⟨c0, c1, c2⟩ := hK
  simp only [Nat.zero_add] at c0 c1 c2
  have hKl : K < w.heap.size := World.block_lt_of_cell? w _ c0
  by_cases hkk : k2 = sk
  · subst hkk
    go_enter Try.func138, Try.ntmps138
    go_wp2_with fail
    go_ret
    exact YesNo.yes trivial ((Below.refl _ _).alloc (Nat.le_refl _) _)
  · have hkk' := bytes_ne (fun h => hkk h.symm)
    have HKK := Lib.hid hkk
    clear hkk
    go_enter Try.func138, Try.ntmps138
    go_wp2_with fail
    go_ret
    exact YesNo.no HKK.out ((Below.refl _ _).alloc (Nat.le_refl _) _)
set_option maxHeartbeats 400000 in
theorem pindex_any (ks : List ByteArray) (s : St) (F : Option Addr) (c K : Nat) (w : World) (hn : ks.length ≤ 1000) (hA : KeyRow w F ks) (ha : s.a = 0) (hi : s.i = false) (hK : At3 w ⟨K, 0, none⟩ s) :
    Calls Try.prog 103 #[.slice F ks.length c, .func (.func 138) #[] #[.pointer (some ⟨K, 0, none⟩)]] w fun e w' => PlaceR ks s.k w e w' := by
  have hKl : K < w.heap.size := World.block_lt_of_cell? w _ hK.1
  have HK := Lib.hid hK
  have HAI := Lib.hid (And.intro ha hi)
  clear hK ha hi
  go_enter Try.func103, Try.ntmps103
  go_wp2_with fail
  go_loopw [8] (fun iv wr => ∃ i : Nat, iv = .int .i64 i ∧ i ≤ ks.length ∧ s.k ∉ ks.take i ∧ Below w.heap.size w wr) (fun iv _ => ks.length - (intOf iv).toNat)
  case atStart => exact ⟨0, rfl, Nat.zero_le _, by simp, Below.refl _ _⟩
  case round =>
    obtain ⟨i, rfl, hi, hnk, hbel⟩ := hrel
    have HNK := Lib.hid hnk
    have HB := Lib.hid hbel
    clear hnk hbel
    by_cases hlt : i < ks.length
    · obtain ⟨k2, hk2⟩ : ∃ k2, ks[i]? = some k2 := ⟨ks[i], List.getElem?_eq_getElem hlt⟩
      obtain ⟨ad, u, rfl, hbl, hcell⟩ := hA i k2 hk2
      obtain ⟨q0, q1, q2, q3, q4, q5⟩ := hcell.below HB.out hbl
      have HK2 := Lib.hid hk2
      have HKc := Lib.hid (HK.out.below HB.out hKl)
      clear hcell hk2
      go_wp2_with fail
      refine (pm1_any s k2 u wr K HAI.out.1 HAI.out.2 HKc.out).mono ?_
      rintro e w1 ⟨r, rfl, hr, hb1⟩
      have HR := Lib.hid hr
      have HB1 := Lib.hid hb1
      clear hr hb1
      cases r
      · have hnk2 := Lib.hid (notin_step HNK.out HK2.out (fun h => by have := HR.out.2 h; cases this))
        go_wp2_with fail
        exact ⟨⟨i + 1, by go_num, by omega, hnk2.out, HB.out.trans (HB1.out.mono HB.out.size)⟩, by simp [intOf]; omega⟩
      · have he := HR.out.1 rfl
        have HE := Lib.hid (show ks[i]? = some s.k from he ▸ HK2.out)
        clear he
        go_wp2_with fail
        go_ret
        exact ⟨i, rfl, .inr ⟨i, rfl, HE.out, HNK.out⟩, HB.out.trans (HB1.out.mono HB.out.size)⟩
    · have hall : Hid (s.k ∉ ks) := by have := HNK.out; rw [List.take_of_length_le (by omega)] at this; exact this
      go_wp2_with fail
      go_ret
      exact ⟨-1, rfl, .inl ⟨rfl, hall.out⟩, HB.out⟩
end Go.Proofs.Ytmdlcalnncncjaa
