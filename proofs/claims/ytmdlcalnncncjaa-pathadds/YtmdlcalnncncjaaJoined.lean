/- Several of the texts that this claim leans on, one behind the other. -/
import Derived.Lib.DecodeN
import Derived.Laws.RangeAny
import Derived.Lib.Strings
import Derived.Test.YtmdlcalnncncjaaRows
import Derived.WalkKit
import Derived.ProofKit
import Derived.OpenShut
import Derived.ShutString
import Derived.WalkSpells
import Derived.Lib.Hide
import Derived.Deep.Draws
import Derived.Deep.Slices
import Derived.BigQuiet
import Derived.Laws.StructEq
import Derived.Lib.BufferWrite
import Derived.Lib.UnsafeStr
import Derived.Lib.OthersKept
import Derived.WalkSmall
import Derived.Laws.MakeOwn
import Derived.StillTailTactics
import Derived.Deep.QuietTactic
/- Plain facts on bytes, runes and names: no program in it. -/
set_option linter.unusedVariables false
set_option linter.unusedSimpArgs false
namespace Go.Proofs.Ytmdlcalnncncjaa
def isL (c : Int) : Bool := decide (97 ≤ c) && decide (c ≤ 122) || decide (65 ≤ c) && decide (c ≤ 90) || c == 95
def isD (c : Int) : Bool := decide (48 ≤ c) && decide (c ≤ 57)
/-- A byte (or rune) that may stand at place i of a name. -/
def nmAt (i : Nat) (c : Int) : Bool := isL c || !(i == 0) && isD c
/-- All bytes from i on may stand there. -/
def nmFrom (s : ByteArray) (i : Nat) : Bool := (List.range (s.size - i)).all fun k => nmAt (i + k) (s.get! (i + k)).toNat
def nameB (s : ByteArray) : Bool := nmFrom s 0 && !(s.size == 0)
theorem nmFrom_end (s : ByteArray) (i : Nat) (h : ¬ i < s.size) : nmFrom s i = true := by
  unfold nmFrom; rw [show s.size - i = 0 by omega]; rfl
theorem nmFrom_step (s : ByteArray) (i : Nat) (h : i < s.size) : nmFrom s i = (nmAt i (s.get! i).toNat && nmFrom s (i + 1)) := by
  unfold nmFrom
  rw [show s.size - i = (s.size - (i + 1)) + 1 by omega, List.range_succ_eq_map]
  simp only [List.all_cons, List.all_map, Nat.add_zero]
  congr 2
  funext k
  simp only [Function.comp, Nat.succ_eq_add_one]
  rw [show i + (k + 1) = i + 1 + k by omega]
theorem get_bang (s : ByteArray) (i : Nat) (h : i < s.size) : s.get! i = s[i]'h := get_at s i h
theorem isL_big (c : Int) (h : 128 ≤ c) : isL c = false := by unfold isL; rw [Bool.eq_false_iff]; simp; omega
theorem isD_big (c : Int) (h : 128 ≤ c) : isD c = false := by unfold isD; rw [Bool.eq_false_iff]; simp; omega
/-- A rune of a name's is its byte, one wide; at another byte both say no. -/
theorem nm_dec (s : ByteArray) (i : Nat) (h : i < s.size) : nmAt i (Utf8.decode s i).1 = nmAt i (s.get! i).toNat ∧ (nmAt i (s.get! i).toNat = true → (Utf8.decode s i).2 = 1) := by
  rw [get_bang s i h]
  by_cases ha : (s[i]'h).toNat < 128
  · rw [decode_ascii s i h ha]; exact ⟨rfl, fun _ => rfl⟩
  · have hd := decode_high s i h (by omega)
    have e1 : nmAt i (Utf8.decode s i).1 = false := by unfold nmAt; rw [isL_big _ (by omega), isD_big _ (by omega)]; simp
    have e2 : nmAt i ((s[i]'h).toNat : Int) = false := by unfold nmAt; rw [isL_big _ (by omega), isD_big _ (by omega)]; simp
    rw [e1, e2]; exact ⟨rfl, fun h => by cases h⟩
theorem nm_no (s : ByteArray) (i : Nat) (h : i < s.size) (hc : nmFrom s i = nmFrom s 0) (hn : nmAt i (Utf8.decode s i).1 = false) : nameB s = false := by
  rw [(nm_dec s i h).1] at hn
  unfold nameB; rw [← hc, nmFrom_step s i h, hn]; rfl
theorem nm_yes (s : ByteArray) (i : Nat) (h : i < s.size) (hc : nmFrom s i = nmFrom s 0) (hn : nmAt i (Utf8.decode s i).1 = true) : (Utf8.decode s i).2 = 1 ∧ nmFrom s (i + (Utf8.decode s i).2) = nmFrom s 0 := by
  rw [(nm_dec s i h).1] at hn
  have hw := (nm_dec s i h).2 hn
  refine ⟨hw, ?_⟩
  rw [hw, ← hc, nmFrom_step s i h, hn]; rfl
theorem nm_end (s : ByteArray) (i : Nat) (h : ¬ i < s.size) (hc : nmFrom s i = nmFrom s 0) : nameB s = !(s.size == 0) := by
  unfold nameB; rw [← hc, nmFrom_end s i h]; rfl
theorem nmr_no (s : ByteArray) (i : Nat) (h : i < s.size) (hc : nmFrom s i = nmFrom s 0) (hn : nmAt i (s.get! i).toNat = false) : nameB s = false := by
  unfold nameB; rw [← hc, nmFrom_step s i h, hn]; rfl
theorem nmr_yes (s : ByteArray) (i : Nat) (h : i < s.size) (hc : nmFrom s i = nmFrom s 0) (hn : nmAt i (s.get! i).toNat = true) : nmFrom s (i + 1) = nmFrom s 0 := by
  rw [← hc, nmFrom_step s i h, hn]; rfl
theorem empty_iff (s : ByteArray) : (!s.toList.isEmpty) = !(s.size == 0) := by
  rw [Lib.toList_data, Lib.size_eq]; cases s.data.toList <;> simp
theorem pos_iff (s : ByteArray) : decide (0 < s.size) = !(s.size == 0) := by
  generalize s.size = n; cases n <;> simp
/-! ### what is no rune -/
theorem get_bang_data (s : ByteArray) (i : Nat) (h : i < s.size) : s.data.toList[i]'(by rw [← Lib.size_eq]; exact h) = s.get! i := by
  rw [get_bang s i h]; rfl
/-- The bytes of fffd stand at i. -/
def repAt (s : ByteArray) (i : Nat) : Bool := Lib.hasPrefix (s.extract i s.size).data.toList [239, 191, 189]
theorem repAt_iff (s : ByteArray) (i : Nat) : repAt s i = true ↔ 3 ≤ s.size - i ∧ (s.get! i).toNat = 239 ∧ (s.get! (i + 1)).toNat = 191 ∧ (s.get! (i + 2)).toNat = 189 := by
  unfold repAt Lib.hasPrefix
  rw [Lib.extract_data, List.take_of_length_le (by rw [List.length_drop, Lib.size_eq]; exact Nat.le_refl _), List.isPrefixOf_iff_prefix]
  have key : ∀ (l : List UInt8) (a b c : UInt8), [a, b, c] <+: l ↔ 3 ≤ l.length ∧ l[0]? = some a ∧ l[1]? = some b ∧ l[2]? = some c := by
    intro l a b c
    rcases l with _ | ⟨x, _ | ⟨y, _ | ⟨z, l⟩⟩⟩ <;> simp [List.cons_prefix_cons]
    exact ⟨fun ⟨h1, h2, h3⟩ => ⟨h1.symm, h2.symm, h3.symm⟩, fun ⟨h1, h2, h3⟩ => ⟨h1.symm, h2.symm, h3.symm⟩⟩
  rw [key]
  simp only [List.length_drop, List.getElem?_drop, ← Lib.size_eq, Nat.add_zero]
  constructor
  · rintro ⟨h0, h1, h2, h3⟩
    have e0 := get_bang_data s i (by omega); have e1 := get_bang_data s (i + 1) (by omega); have e2 := get_bang_data s (i + 2) (by omega)
    obtain ⟨_, g1⟩ := List.getElem?_eq_some_iff.1 h1
    obtain ⟨_, g2⟩ := List.getElem?_eq_some_iff.1 h2
    obtain ⟨_, g3⟩ := List.getElem?_eq_some_iff.1 h3
    rw [← e0, ← e1, ← e2, g1, g2, g3]
    exact ⟨h0, rfl, rfl, rfl⟩
  · rintro ⟨h0, h1, h2, h3⟩
    have e0 := get_bang_data s i (by omega); have e1 := get_bang_data s (i + 1) (by omega); have e2 := get_bang_data s (i + 2) (by omega)
    refine ⟨h0, List.getElem?_eq_some_iff.2 ⟨by rw [← Lib.size_eq]; omega, ?_⟩, List.getElem?_eq_some_iff.2 ⟨by rw [← Lib.size_eq]; omega, ?_⟩, List.getElem?_eq_some_iff.2 ⟨by rw [← Lib.size_eq]; omega, ?_⟩⟩
    · rw [e0]; exact UInt8.toNat_inj.1 h1
    · rw [e1]; exact UInt8.toNat_inj.1 h2
    · rw [e2]; exact UInt8.toNat_inj.1 h3
set_option maxRecDepth 100000 in
set_option maxHeartbeats 2000000 in
theorem dec_rep (n b0 b1 b2 b3 : Nat) (h0 : b0 < 256) (h1 : b1 < 256) (h2 : b2 < 256) (h3 : b3 < 256) (h : (Lib.decodeN n b0 b1 b2 b3).1 = 65533) :
    (Lib.decodeN n b0 b1 b2 b3).2 = 1 ∧ ¬ (3 ≤ n ∧ b0 = 239 ∧ b1 = 191 ∧ b2 = 189) ∨ (Lib.decodeN n b0 b1 b2 b3).2 = 3 ∧ (3 ≤ n ∧ b0 = 239 ∧ b1 = 191 ∧ b2 = 189) := by
  revert h
  unfold Lib.decodeN
  repeat' split
  all_goals (intro h; try simp only at h ⊢)
  all_goals first | omega | (refine .inl ⟨trivial, ?_⟩; omega) | (refine .inr ⟨trivial, ?_⟩; omega)
def badAt (s : ByteArray) (i : Nat) : Bool := (Utf8.decode s i).1 == 65533 && (Utf8.decode s i).2 == 1
theorem get_lt (s : ByteArray) (i : Nat) : (s.get! i).toNat < 256 := (s.get! i).toNat_lt
theorem badAt_rep (s : ByteArray) (i : Nat) (h : (Utf8.decode s i).1 = 65533) : badAt s i = !repAt s i := by
  unfold badAt
  rw [h]
  have hr := repAt_iff s i
  have hd := dec_rep (s.size - i) _ _ _ _ (get_lt s i) (get_lt s (i + 1)) (get_lt s (i + 2)) (get_lt s (i + 3)) (by rw [← Lib.decode_at]; exact h)
  rw [← Lib.decode_at] at hd
  rcases hd with ⟨a, b⟩ | ⟨a, b⟩
  · rw [a]; cases hc : repAt s i
    · rfl
    · exact (b (hr.1 hc)).elim
  · rw [a, hr.2 b]; rfl
theorem badAt_not (s : ByteArray) (i : Nat) (h : (Utf8.decode s i).1 ≠ 65533) : badAt s i = false := by
  unfold badAt; simp [h]
theorem width_pos (s : ByteArray) (pos : Nat) (h : pos < s.size) : 1 ≤ (Utf8.decode s pos).2 := by
  by_cases ha : (s[pos]'h).toNat < 128
  · rw [decode_ascii s pos h ha]
    exact Nat.le_refl _
  · exact (decode_high s pos h (by omega)).2
/-- The place of the first byte from i on at which no rune begins; -1: none. -/
def badF (s : ByteArray) : Nat → Nat → Int
  | 0, _ => -1
  | f + 1, i => if i < s.size then (if badAt s i then (i : Int) else badF s f (i + (Utf8.decode s i).2)) else -1
def badI (s : ByteArray) : Int := badF s (s.size + 1) 0
theorem badF_end (s : ByteArray) (f i : Nat) (h : ¬ i < s.size) : badF s f i = -1 := by
  cases f <;> simp [badF, h]
theorem badF_hit (s : ByteArray) (f i : Nat) (h : i < s.size) (hf : s.size < i + f) (hb : badAt s i = true) : badF s f i = i := by
  cases f with
  | zero => omega
  | succ f => simp [badF, h, hb]
theorem badF_go (s : ByteArray) (f i : Nat) (h : i < s.size) (hf : s.size < i + f) (hb : badAt s i = false) : ∃ g, badF s f i = badF s g (i + (Utf8.decode s i).2) ∧ s.size < i + (Utf8.decode s i).2 + g := by
  cases f with
  | zero => omega
  | succ f => exact ⟨f, by simp [badF, h, hb], by have := width_pos s i h; omega⟩
theorem badF_name (s : ByteArray) : ∀ (f i : Nat), nmFrom s i = true → badF s f i = -1
  | 0, _, _ => rfl
  | f + 1, i, h => by
    by_cases hi : i < s.size
    · rw [nmFrom_step s i hi, Bool.and_eq_true] at h
      have hw := (nm_dec s i hi).2 h.1
      have hb : badAt s i = false := badAt_not s i (fun e => by
        have := (nm_dec s i hi).1; rw [h.1, e] at this; simp [nmAt, isL, isD] at this)
      simp only [badF, hi, hb, hw, if_true]
      exact badF_name s f (i + 1) h.2
    · exact badF_end s _ i hi
theorem bad_name (s : ByteArray) (h : nameB s = true) : badI s = -1 := by
  unfold nameB at h; rw [Bool.and_eq_true] at h; exact badF_name s _ 0 h.1
end Go.Proofs.Ytmdlcalnncncjaa

set_option linter.unusedVariables false
set_option linter.unusedSimpArgs false
namespace Go.Proofs.Ytmdlcalnncncjaa
open Go.RowKit
theorem ret_bool {a b : Bool} (h : a = b) : Ending.returned (.bool a) = .returned (.bool b) := by rw [h]
theorem ret_int {k : IntKind} {a b : Int} (h : a = b) : Ending.returned (.int k a) = .returned (.int k b) := by rw [h]
theorem prefix_any (s p : ByteArray) (w : World) : Calls Try.prog 136 #[.string s, .string p] w fun e w' => e = .returned (.bool (Lib.hasPrefix s.data.toList p.data.toList)) ∧ w = w' := by
  rw [← Lib.hasPrefix_raw]
  by_cases h : p.size ≤ s.size
  · go_enter Try.func136, Try.ntmps136
    go_wp2
    go_ret
    exact ⟨ret_bool (by simp [h]), rfl⟩
  · go_enter Try.func136, Try.ntmps136
    go_wp2
    go_ret
    exact ⟨ret_bool (by simp [h]), rfl⟩
theorem rep_any (s : ByteArray) (hs : s.size ≤ maxLen) (i : Nat) (hi : i ≤ s.size) (w : World) : Calls Try.prog 121 #[.string s, .int .i64 i] w fun e w' => e = .returned (.bool (repAt s i)) ∧ w = w' := by
  unfold maxLen at hs
  unfold repAt
  go_enter Try.func121, Try.ntmps121
  go_wp2_with (go_at_call 136; refine (prefix_any _ _ _).mono ?_; rintro e w' ⟨rfl, rfl⟩)
  go_ret
  exact ⟨ret_bool (by rw [Lib.extract_data]), rfl⟩
set_option maxHeartbeats 400000 in
theorem bad_any (s : ByteArray) (hs : s.size ≤ maxLen) (w : World) : Calls Try.prog 105 #[.string s] w fun e w' => e = .returned (.int .i64 (badI s)) ∧ Below w.heap.size w w' := by
  have hm := hs
  unfold maxLen at hs
  go_enter Try.func105, Try.ntmps105
  go_wp2
  go_loopw [] (fun w' => ∃ pos b : Nat, w' = w.iter s pos ∧ badF s b pos = badF s (s.size + 1) 0 ∧ s.size < pos + b) (fun w' => s.size - w'.iterPos w.heap.size)
  case atStart => exact ⟨0, s.size + 1, rfl, rfl, by omega⟩
  case round =>
    obtain ⟨pos, b, rfl, hc, hb⟩ := hrel
    have HC := Lib.hid hc
    clear hc
    by_cases hp : pos < s.size
    · have hnx : ∀ ty, (Instr.next (.pointer (some ⟨w.heap.size, 0, none⟩)) true ty).run Try.prog (w.iter s pos) = _ := fun ty => run_next_any w s pos ty hp
      have hwd := width_pos s pos hp
      by_cases hr : (Utf8.decode s pos).1 = 65533
      · have hz : (((Utf8.decode s pos).1 : Int) == 65533) = true := by rw [hr]; rfl
        have hba := badAt_rep s pos hr
        have HB := Lib.hid hba
        clear hba hr
        by_cases hrep : repAt s pos = true
        · go_wp2_with (go_at_call 121; refine (rep_any s hm pos (by omega) _).mono ?_; rintro e w' ⟨rfl, rfl⟩)
          obtain ⟨g, h1, h2⟩ := badF_go s b pos hp hb (by rw [HB.out, hrep]; rfl)
          exact ⟨⟨_, g, rfl, by rw [← h1]; exact HC.out, h2⟩, by simp; omega⟩
        · have hrep' : repAt s pos = false := by simpa using hrep
          clear hrep
          go_wp2_with (go_at_call 121; refine (rep_any s hm pos (by omega) _).mono ?_; rintro e w' ⟨rfl, rfl⟩)
          go_ret
          refine ⟨ret_int ?_, (Below.refl _ _).alloc (Nat.le_refl _) _⟩
          unfold badI
          rw [← HC.out, badF_hit s b pos hp hb (by rw [HB.out, hrep']; rfl)]
      · have hz : (((Utf8.decode s pos).1 : Int) == 65533) = false := by simp; omega
        have hba := badAt_not s pos hr
        have HB := Lib.hid hba
        clear hba hr
        go_wp2_with fail
        obtain ⟨g, h1, h2⟩ := badF_go s b pos hp hb HB.out
        exact ⟨⟨_, g, rfl, by rw [← h1]; exact HC.out, h2⟩, by simp; omega⟩
    · have hnx : ∀ ty, (Instr.next (.pointer (some ⟨w.heap.size, 0, none⟩)) true ty).run Try.prog (w.iter s pos) = _ := fun ty => run_next_end w s pos ty hp
      go_wp2
      go_ret
      refine ⟨ret_int ?_, (Below.refl _ _).alloc (Nat.le_refl _) _⟩
      unfold badI
      rw [← HC.out, badF_end s b pos hp]
theorem badF_ge (s : ByteArray) : ∀ f i, -1 ≤ badF s f i ∧ badF s f i ≤ s.size
  | 0, _ => by simp [badF]
  | f + 1, i => by
    have := badF_ge s f (i + (Utf8.decode s i).2)
    simp only [badF]; repeat' split
    all_goals omega
def rightB (s : ByteArray) : Bool := decide (badI s < 0)
theorem right_any (s : ByteArray) (hs : s.size ≤ maxLen) (w : World) : Calls Try.prog 76 #[.string s] w fun e w' => e = .returned (.bool (rightB s)) ∧ Below w.heap.size w w' := by
  go_enter Try.func76, Try.ntmps76
  go_wp2_with (go_at_call 105; refine (bad_any _ hs _).mono ?_; rintro e w' ⟨rfl, hb⟩)
  go_ret
  exact ⟨rfl, hb⟩
theorem info5 : (Try.prog.info? 5).map (fun i => (i.zero, i.size, i.bytes)) = some (some (.int .u8 0), 1, 1) := by kernel_rfl
end Go.Proofs.Ytmdlcalnncncjaa

/- Values (api.Value) as plain trees, and how they lie in memory. -/
set_option linter.unusedVariables false
set_option linter.unusedSimpArgs false
namespace Go.Proofs.Ytmdlcalnncncjaa
open Go.RowKit

/-- A value as data: kind, number, text, elements, keys, the keys' values. -/
inductive Va : Type
  | mk (k n : Int) (s : ByteArray) (l : List Va) (ks : List ByteArray) (f : List Va)
/-- A value's five cells. -/
structure Hd where
  k : Int
  n : Int
  s : ByteArray
  A : Option Addr
  la : Nat
  lc : Nat
  F : Option Addr
  lf : Nat
  fc : Nat
def Hd.cells (h : Hd) : List Value := [.int .i64 h.k, .int .i64 h.n, .string h.s, .slice h.A h.la h.lc, .slice h.F h.lf h.fc]
def Hd.val (h : Hd) : Value := .agg #[.int .i64 h.k, .int .i64 h.n, .string h.s, .slice h.A h.la h.lc, .slice h.F h.lf h.fc]
/-- A pair's six cells. -/
def pcells (p : ByteArray × Hd) : List Value := .string p.1 :: p.2.cells

mutual
def Va.cnt : Va → Nat
  | .mk _ _ _ l _ f => 1 + cntL l + cntL f
def cntL : List Va → Nat
  | [] => 0
  | x :: r => x.cnt + cntL r
end
theorem cntL_mem {x : Va} : ∀ {l : List Va}, x ∈ l → x.cnt ≤ cntL l
  | y :: r, h => by
    rcases List.mem_cons.1 h with rfl | h
    · simp only [cntL]; omega
    · have := cntL_mem h; simp only [cntL]; omega
theorem Va.ind {p : Va → Prop} (h : ∀ k n s l ks f, (∀ x ∈ l, p x) → (∀ x ∈ f, p x) → p (.mk k n s l ks f)) : ∀ a, p a := by
  have H : ∀ m a, Va.cnt a ≤ m → p a := by
    intro m
    induction m with
    | zero =>
      intro a ha
      cases a
      simp only [Va.cnt] at ha
      omega
    | succ m ih =>
      intro a ha
      obtain ⟨k, n, s, l, ks, f⟩ := a
      simp only [Va.cnt] at ha
      exact h k n s l ks f (fun x hx => ih x (by have := cntL_mem hx; omega)) (fun x hx => ih x (by have := cntL_mem hx; omega))
  exact fun a => H _ a (Nat.le_refl _)

/-- Rows of cells: the elements' cells, 'size' each, lie one behind the other from A on, in a block of S. -/
def RowAt (w : World) (S : Nat → Prop) (size : Nat) (A : Option Addr) (cs : List (List Value)) : Prop :=
  0 < cs.length → ∃ ad, A = some ad ∧ S ad.block ∧ ∀ (i : Nat) c, cs[i]? = some c → ∀ (j : Nat) u, c[j]? = some u → w.cell? (ad.add (i * size + j)) = some u

mutual
def Lies (w : World) (S : Nat → Prop) : Va → Hd → Prop
  | .mk k n s l ks f, h => (h.k = k ∧ h.n = n ∧ h.s = s ∧ h.la = l.length ∧ h.lf = f.length ∧ ks.length = f.length) ∧
      ((-9223372036854775808 ≤ k ∧ k ≤ 9223372036854775807) ∧ (-9223372036854775808 ≤ n ∧ n ≤ 9223372036854775807) ∧ s.size ≤ maxLen ∧ (∀ x ∈ ks, x.size ≤ maxLen) ∧ l.length ≤ maxLen ∧ f.length ≤ maxLen ∧ l.length ≤ h.lc ∧ f.length ≤ h.fc) ∧
      (∃ us, RowAt w S 5 h.A (us.map Hd.cells) ∧ LiesL w S l us) ∧ (∃ us, RowAt w S 6 h.F ((ks.zip us).map pcells) ∧ LiesL w S f us)
def LiesL (w : World) (S : Nat → Prop) : List Va → List Hd → Prop
  | [], us => us = []
  | x :: r, us => ∃ u us', us = u :: us' ∧ Lies w S x u ∧ LiesL w S r us'
end
theorem LiesL_len {w : World} {S : Nat → Prop} : ∀ {l : List Va} {us : List Hd}, LiesL w S l us → us.length = l.length
  | [], us, h => by simp only [LiesL] at h; simp [h]
  | x :: r, us, h => by
    simp only [LiesL] at h
    obtain ⟨u, us', rfl, _, h2⟩ := h
    simp [LiesL_len h2]
theorem LiesL_at {w : World} {S : Nat → Prop} : ∀ {l : List Va} {us : List Hd}, LiesL w S l us → ∀ {i : Nat} {x : Va}, l[i]? = some x → ∃ u, us[i]? = some u ∧ Lies w S x u
  | [], us, h, i, x, hx => by simp at hx
  | y :: r, us, h, i, x, hx => by
    simp only [LiesL] at h
    obtain ⟨u, us', rfl, h1, h2⟩ := h
    cases i with
    | zero =>
      simp at hx
      subst hx
      exact ⟨u, rfl, h1⟩
    | succ i => exact LiesL_at h2 (by simpa using hx)
theorem LiesL_imp {w w' : World} {S S' : Nat → Prop} : ∀ {l : List Va} {us : List Hd}, LiesL w S l us → (∀ x ∈ l, ∀ u, Lies w S x u → Lies w' S' x u) → LiesL w' S' l us
  | [], us, h, _ => by simp only [LiesL] at h ⊢; exact h
  | x :: r, us, h, hi => by
    simp only [LiesL] at h ⊢
    obtain ⟨u, us', rfl, h1, h2⟩ := h
    exact ⟨u, us', rfl, hi x (by simp) u h1, LiesL_imp h2 (fun y hy => hi y (by simp [hy]))⟩
theorem LiesL_mk {w : World} {S : Nat → Prop} : ∀ {l : List Va} {us : List Hd}, us.length = l.length → (∀ (i : Nat) x u, l[i]? = some x → us[i]? = some u → Lies w S x u) → LiesL w S l us
  | [], us, hl, _ => by simp only [LiesL]; simpa using hl
  | x :: r, us, hl, h => by
    simp only [LiesL]
    cases us with
    | nil => simp at hl
    | cons u us => exact ⟨u, us, rfl, h 0 x u rfl rfl, LiesL_mk (by simpa using hl) (fun i y v hy hv => h (i + 1) y v (by simpa using hy) (by simpa using hv))⟩
theorem adb (a : Addr) (n : Nat) : (a.add n).block = a.block := by unfold Addr.add; split <;> rfl
theorem ada (a : Addr) (i j : Nat) : (a.add i).add j = a.add (i + j) := by
  unfold Addr.add
  by_cases hi : i = 0 <;> by_cases hj : j = 0 <;> simp [hi, hj, Nat.add_assoc]
theorem RowAt.keep {w w' : World} {S S' : Nat → Prop} {size : Nat} {A : Option Addr} {cs : List (List Value)} (h : RowAt w S size A cs) (hne : ∀ c ∈ cs, c ≠ [])
    (hk : ∀ p : Addr, S p.block → p.block < w.heap.size → w'.cell? p = w.cell? p) (hS : ∀ b, S b → b < w.heap.size → S' b) : RowAt w' S' size A cs := by
  intro hp
  obtain ⟨ad, rfl, hs, hc⟩ := h hp
  have h0 : cs[0]? = some cs[0] := List.getElem?_eq_getElem hp
  have hb : ad.block < w.heap.size := by
    have hn := hne cs[0] (List.getElem_mem hp)
    cases hcs : cs[0] with
    | nil => exact absurd hcs hn
    | cons u us =>
      have := hc 0 _ h0 0 u (by rw [hcs]; rfl)
      have := World.block_lt_of_cell? w _ this
      rwa [adb] at this
  exact ⟨ad, rfl, hS _ hs hb, fun i c hi j u hu => (hk _ (by rw [adb]; exact hs) (by rw [adb]; exact hb)).trans (hc i c hi j u hu)⟩
theorem Lies.keep {w w' : World} {S S' : Nat → Prop} (hk : ∀ p : Addr, S p.block → p.block < w.heap.size → w'.cell? p = w.cell? p) (hS : ∀ b, S b → b < w.heap.size → S' b) :
    ∀ (a : Va) (h : Hd), Lies w S a h → Lies w' S' a h := by
  intro a
  induction a using Va.ind with
  | h k n s l ks f hl hf =>
    intro h H
    simp only [Lies] at H ⊢
    obtain ⟨h1, h2, ⟨us, hr, hu⟩, ⟨vs, hr2, hv⟩⟩ := H
    refine ⟨h1, h2, ⟨us, hr.keep ?_ hk hS, LiesL_imp hu (fun x hx u => hl x hx u)⟩, ⟨vs, hr2.keep ?_ hk hS, LiesL_imp hv (fun x hx u => hf x hx u)⟩⟩
    · intro c hc
      obtain ⟨u, _, rfl⟩ := List.mem_map.1 hc
      simp [Hd.cells]
    · intro c hc
      obtain ⟨u, _, rfl⟩ := List.mem_map.1 hc
      simp [pcells]
theorem Lies.below {w w' : World} {S : Nat → Prop} {a : Va} {h : Hd} {B : Nat} (H : Lies w S a h) (hb : Below B w w') (hB : w.heap.size ≤ B) : Lies w' S a h :=
  Lies.keep (fun p _ hp => hb.cell (by omega)) (fun _ h _ => h) a h H
theorem add_pos (a : Addr) {n : Nat} (h : 0 < n) : a.add n = ⟨a.block, a.off + n, none⟩ := by unfold Addr.add; rw [if_neg (by omega)]
/-- The five cells at an address. -/
def At5 (w : World) (q : Addr) (u : Hd) : Prop := w.cell? q = some (.int .i64 u.k) ∧ w.cell? ⟨q.block, q.off + 1, none⟩ = some (.int .i64 u.n) ∧ w.cell? ⟨q.block, q.off + 2, none⟩ = some (.string u.s) ∧
  w.cell? ⟨q.block, q.off + 3, none⟩ = some (.slice u.A u.la u.lc) ∧ w.cell? ⟨q.block, q.off + 4, none⟩ = some (.slice u.F u.lf u.fc)
def At6 (w : World) (q : Addr) (key : ByteArray) (u : Hd) : Prop := w.cell? q = some (.string key) ∧ w.cell? ⟨q.block, q.off + 1, none⟩ = some (.int .i64 u.k) ∧ w.cell? ⟨q.block, q.off + 2, none⟩ = some (.int .i64 u.n) ∧ w.cell? ⟨q.block, q.off + 3, none⟩ = some (.string u.s) ∧
  w.cell? ⟨q.block, q.off + 4, none⟩ = some (.slice u.A u.la u.lc) ∧ w.cell? ⟨q.block, q.off + 5, none⟩ = some (.slice u.F u.lf u.fc)
theorem At5.of {w : World} {q : Addr} {u : Hd} (h : ∀ (j : Nat) c, u.cells[j]? = some c → w.cell? (q.add j) = some c) : At5 w q u := by
  refine ⟨?_, ?_, ?_, ?_, ?_⟩
  · have := h 0 _ rfl; simpa [Addr.add] using this
  · have := h 1 _ rfl; rwa [add_pos _ (by decide)] at this
  · have := h 2 _ rfl; rwa [add_pos _ (by decide)] at this
  · have := h 3 _ rfl; rwa [add_pos _ (by decide)] at this
  · have := h 4 _ rfl; rwa [add_pos _ (by decide)] at this
theorem At6.of {w : World} {q : Addr} {key : ByteArray} {u : Hd} (h : ∀ (j : Nat) c, (pcells (key, u))[j]? = some c → w.cell? (q.add j) = some c) : At6 w q key u := by
  refine ⟨?_, ?_, ?_, ?_, ?_, ?_⟩
  · have := h 0 _ rfl; simpa [Addr.add] using this
  · have := h 1 _ rfl; rwa [add_pos _ (by decide)] at this
  · have := h 2 _ rfl; rwa [add_pos _ (by decide)] at this
  · have := h 3 _ rfl; rwa [add_pos _ (by decide)] at this
  · have := h 4 _ rfl; rwa [add_pos _ (by decide)] at this
  · have := h 5 _ rfl; rwa [add_pos _ (by decide)] at this
theorem At5.below {w w' : World} {q : Addr} {u : Hd} {B : Nat} (h : At5 w q u) (hb : Below B w w') (hq : q.block < B) : At5 w' q u :=
  ⟨(hb.cell hq).trans h.1, (hb.cell (p := ⟨q.block, _, none⟩) hq).trans h.2.1, (hb.cell (p := ⟨q.block, _, none⟩) hq).trans h.2.2.1, (hb.cell (p := ⟨q.block, _, none⟩) hq).trans h.2.2.2.1, (hb.cell (p := ⟨q.block, _, none⟩) hq).trans h.2.2.2.2⟩
theorem At6.below {w w' : World} {q : Addr} {key : ByteArray} {u : Hd} {B : Nat} (h : At6 w q key u) (hb : Below B w w') (hq : q.block < B) : At6 w' q key u :=
  ⟨(hb.cell hq).trans h.1, (hb.cell (p := ⟨q.block, _, none⟩) hq).trans h.2.1, (hb.cell (p := ⟨q.block, _, none⟩) hq).trans h.2.2.1, (hb.cell (p := ⟨q.block, _, none⟩) hq).trans h.2.2.2.1, (hb.cell (p := ⟨q.block, _, none⟩) hq).trans h.2.2.2.2.1, (hb.cell (p := ⟨q.block, _, none⟩) hq).trans h.2.2.2.2.2⟩
/-- What stands of a value that lies in memory. -/
structure Op5 (w : World) (S : Nat → Prop) (l : List Va) (ks : List ByteArray) (f : List Va) (h : Hd) : Prop where
  L : ∀ (i : Nat) x, l[i]? = some x → ∃ ad u, h.A = some ad ∧ S ad.block ∧ (ad.add (i * 5)).block < w.heap.size ∧ Lies w S x u ∧ At5 w (ad.add (i * 5)) u
  K : ∀ (i : Nat) x, f[i]? = some x → ∃ ad u key, h.F = some ad ∧ S ad.block ∧ (ad.add (i * 6)).block < w.heap.size ∧ ks[i]? = some key ∧ key.size ≤ maxLen ∧ Lies w S x u ∧ At6 w (ad.add (i * 6)) key u
theorem Lies.op {w : World} {S : Nat → Prop} {k n : Int} {s : ByteArray} {l : List Va} {ks : List ByteArray} {f : List Va} {h : Hd} (H : Lies w S (.mk k n s l ks f) h) : Op5 w S l ks f h := by
  simp only [Lies] at H
  obtain ⟨⟨_, _, _, h4, h5, h6⟩, ⟨_, _, _, hks, _⟩, ⟨us, hr, hu⟩, ⟨vs, hr2, hv⟩⟩ := H
  constructor
  · intro i x hx
    obtain ⟨u, hui, hL⟩ := LiesL_at hu hx
    have hlt : i < us.length := (List.getElem?_eq_some_iff.1 hui).1
    obtain ⟨ad, e, hs, hc⟩ := hr (by simp; omega)
    have hc' := hc i u.cells (by simp [hui])
    have := World.block_lt_of_cell? w _ (hc' 0 _ rfl)
    rw [adb] at this
    exact ⟨ad, u, e, hs, by rw [adb]; exact this, hL, At5.of (fun j c hj => by rw [ada]; exact hc' j c hj)⟩
  · intro i x hx
    obtain ⟨u, hui, hL⟩ := LiesL_at hv hx
    have hlt : i < vs.length := (List.getElem?_eq_some_iff.1 hui).1
    have hl2 := LiesL_len hv
    obtain ⟨key, hkey⟩ : ∃ key, ks[i]? = some key := ⟨ks[i]'(by omega), List.getElem?_eq_getElem (by omega)⟩
    have hz : (ks.zip vs)[i]? = some (key, u) := List.getElem?_zip_eq_some.2 ⟨hkey, hui⟩
    have hlz : i < (ks.zip vs).length := (List.getElem?_eq_some_iff.1 hz).1
    obtain ⟨ad, e, hs, hc⟩ := hr2 (by rw [List.length_map]; omega)
    have hc' := hc i (pcells (key, u)) (by simp [hz])
    have := World.block_lt_of_cell? w _ (hc' 0 _ rfl)
    rw [adb] at this
    exact ⟨ad, u, key, e, hs, by rw [adb]; exact this, hkey, hks _ (List.mem_of_getElem? hkey), hL, At6.of (fun j c hj => by rw [ada]; exact hc' j c hj)⟩
/-- A value's box: the block that a call lays for its argument. -/
def BoxAt (w wr : World) (h : Hd) : Prop := Below w.heap.size w wr ∧ w.heap.size < wr.heap.size ∧ ∀ (j : Nat) c, h.cells[j]? = some c → wr.cell? ⟨w.heap.size, j, none⟩ = some c
theorem BoxAt.go {w wr wr' : World} {h : Hd} {B : Nat} (hb : BoxAt w wr h) (hB : Below B wr wr') (hle : wr.heap.size ≤ B) : BoxAt w wr' h :=
  ⟨hb.1.trans (hB.mono (by have := hb.2.1; omega)), by have := hB.size; have := hb.2.1; omega, fun j c hc => (hB.cell (p := ⟨w.heap.size, j, none⟩) (show w.heap.size < B from Nat.lt_of_lt_of_le hb.2.1 hle)).trans (hb.2.2 j c hc)⟩
theorem BoxAt.start (w : World) (h : Hd) (t : TypeId) : BoxAt w (w.alloc (Obj.cells #[.int .i64 h.k, .int .i64 h.n, .string h.s, .slice h.A h.la h.lc, .slice h.F h.lf h.fc] t)) h := by
  refine ⟨(Below.refl _ _).alloc (Nat.le_refl _) _, by simp, ?_⟩
  intro j c hc
  rw [World.cell?_alloc_new]
  rw [← hc]
  simp [Hd.cells]
/-- A box by its number. -/
def Bx (w : World) (N : Nat) (h : Hd) : Prop := N < w.heap.size ∧ ∀ (j : Nat) c, h.cells[j]? = some c → w.cell? ⟨N, j, none⟩ = some c
theorem Bx.go {w w' : World} {h : Hd} {N B : Nat} (hb : Bx w N h) (hB : Below B w w') (hle : N < B) : Bx w' N h :=
  ⟨by have := hB.size; have := hb.1; omega, fun j c hc => (hB.cell (p := ⟨N, j, none⟩) hle).trans (hb.2 j c hc)⟩
theorem Bx.alloc {w : World} {h : Hd} {N : Nat} (hb : Bx w N h) (o : Obj) : Bx (w.alloc o) N h := hb.go ((Below.refl w.heap.size w).alloc (Nat.le_refl _) o) hb.1
theorem Bx.start (w : World) (h : Hd) (t : TypeId) : Bx (w.alloc (Obj.cells #[.int .i64 h.k, .int .i64 h.n, .string h.s, .slice h.A h.la h.lc, .slice h.F h.lf h.fc] t)) w.heap.size h := by
  have := BoxAt.start w h t
  exact ⟨this.2.1, this.2.2⟩
theorem Bx.start' (w : World) (h : Hd) (t : TypeId) {N : Nat} (hN : N = w.heap.size) : Bx (w.alloc (Obj.cells #[.int .i64 h.k, .int .i64 h.n, .string h.s, .slice h.A h.la h.lc, .slice h.F h.lf h.fc] t)) N h := by
  subst hN
  exact Bx.start w h t
/-- Behind a block that was laid and a call that keeps what there was. -/
theorem after_alloc {wr w1 : World} {cs : Array Value} {t : TypeId} (hb : Below (wr.alloc (.cells cs t)).heap.size (wr.alloc (.cells cs t)) w1) :
    Below wr.heap.size wr w1 ∧ wr.heap.size < w1.heap.size ∧ ∀ (j : Nat) v, cs[j]? = some v → w1.cell? ⟨wr.heap.size, j, none⟩ = some v := by
  have hs := hb.size
  simp only [World.size_alloc] at hs hb
  refine ⟨((Below.refl _ _).alloc (Nat.le_refl _) _).trans (hb.mono (by omega)), by omega, fun j v hj => ?_⟩
  rw [hb.cell (p := ⟨wr.heap.size, j, none⟩) (by show wr.heap.size < wr.heap.size + 1; omega), World.cell?_alloc_new]
  exact hj
theorem bytes_ne {a b : ByteArray} (h : ¬ a = b) : (a.toList == b.toList) = false := by
  rw [Lib.toList_data, Lib.toList_data, Bool.eq_false_iff]
  intro e
  exact h (ByteArray.ext (Array.toList_inj.1 (eq_of_beq e)))
theorem bytes_eq {s t : ByteArray} (h : s = t) : (s.toList == t.toList) = true := by
  subst h; simp
end Go.Proofs.Ytmdlcalnncncjaa

/- Paths: steps as data, and how they lie; how many steps of two paths are the same. -/
set_option linter.unusedVariables false
set_option linter.unusedSimpArgs false
namespace Go.Proofs.Ytmdlcalnncncjaa
open Go.RowKit
/-- A step: key, place, whether it is a place. -/
structure St where
  k : ByteArray
  a : Int
  i : Bool
deriving DecidableEq
def St.cells (s : St) : List Value := [.string s.k, .int .i64 s.a, .bool s.i]
/-- What a step's fields may hold. -/
def St.ok (s : St) : Prop := s.k.size ≤ maxLen ∧ -9223372036854775808 ≤ s.a ∧ s.a ≤ 9223372036854775807
/-- The three cells at an address. -/
def At3 (w : World) (q : Addr) (s : St) : Prop := w.cell? q = some (.string s.k) ∧ w.cell? ⟨q.block, q.off + 1, none⟩ = some (.int .i64 s.a) ∧ w.cell? ⟨q.block, q.off + 2, none⟩ = some (.bool s.i)
theorem At3.below {w w' : World} {q : Addr} {s : St} {B : Nat} (h : At3 w q s) (hb : Below B w w') (hq : q.block < B) : At3 w' q s :=
  ⟨(hb.cell hq).trans h.1, (hb.cell (p := ⟨q.block, _, none⟩) hq).trans h.2.1, (hb.cell (p := ⟨q.block, _, none⟩) hq).trans h.2.2⟩
theorem At3.of {w : World} {q : Addr} {s : St} (h : ∀ (j : Nat) c, s.cells[j]? = some c → w.cell? (q.add j) = some c) : At3 w q s := by
  refine ⟨?_, ?_, ?_⟩
  · have := h 0 _ rfl; simpa [Addr.add] using this
  · have := h 1 _ rfl; rwa [add_pos _ (by decide)] at this
  · have := h 2 _ rfl; rwa [add_pos _ (by decide)] at this
/-- A path's steps, one behind the other from A on. -/
def PathAt (w : World) (A : Option Addr) (p : List St) : Prop := ∀ (i : Nat) s, p[i]? = some s → ∃ ad, A = some ad ∧ (ad.add (i * 3)).block < w.heap.size ∧ At3 w (ad.add (i * 3)) s ∧ s.ok
theorem PathAt.below {w w' : World} {A : Option Addr} {p : List St} {B : Nat} (h : PathAt w A p) (hb : Below B w w') (hB : w.heap.size ≤ B) : PathAt w' A p := by
  intro i s hs
  obtain ⟨ad, e, h1, h2, h3⟩ := h i s hs
  exact ⟨ad, e, by have := hb.size; omega, h2.below hb (by omega), h3⟩
theorem PathAt.nil (w : World) (A : Option Addr) : PathAt w A [] := fun i s h => by simp at h
theorem below_drewN3 {B : Nat} {a w : World} (h : Below B a w) (n : Nat) : Below B a (w.drewN n) := h.trans ⟨rfl, rfl, rfl, Nat.le_refl _, fun _ _ => rfl⟩
/-- How many steps are the same, from the beginning on. -/
def meet : List St → List St → Nat
  | x :: p, y :: q => if x = y then meet p q + 1 else 0
  | _, _ => 0
theorem meet_le : ∀ p q : List St, meet p q ≤ p.length ∧ meet p q ≤ q.length
  | [], q => by simp [meet]
  | x :: p, [] => by simp [meet]
  | x :: p, y :: q => by
    have := meet_le p q
    simp only [meet]
    split <;> simp <;> omega
theorem meet_take : ∀ p q : List St, p.take (meet p q) = q.take (meet p q)
  | [], q => by simp [meet]
  | x :: p, [] => by simp [meet]
  | x :: p, y :: q => by
    simp only [meet]
    split
    · rename_i h
      subst h
      simp [meet_take p q]
    · simp
theorem meet_ne : ∀ (p q : List St) s t, p[meet p q]? = some s → q[meet p q]? = some t → s ≠ t
  | [], q, s, t, h, _ => by simp at h
  | x :: p, [], s, t, _, h => by simp at h
  | x :: p, y :: q, s, t, h, k => by
    simp only [meet] at h k
    split at h
    · rename_i e
      simp only [e, if_true] at k
      exact meet_ne p q s t (by simpa using h) (by simpa using k)
    · rename_i e
      simp only [e, if_false] at k
      simp at h k
      subst h k
      exact e
/-- n steps are the same, and no more: that is the meeting. -/
theorem meet_eq {p q : List St} {n : Nat} (hn : n ≤ p.length) (hm : n ≤ q.length) (ht : p.take n = q.take n) (hs : ∀ s t, p[n]? = some s → q[n]? = some t → s ≠ t) : meet p q = n := by
  induction n generalizing p q with
  | zero =>
    cases p with
    | nil => simp [meet]
    | cons x p =>
      cases q with
      | nil => simp [meet]
      | cons y q => simp only [meet]; rw [if_neg (hs x y rfl rfl)]
  | succ n ih =>
    cases p with
    | nil => simp at hn
    | cons x p =>
      cases q with
      | nil => simp at hm
      | cons y q =>
        simp only [List.take_succ_cons, List.cons.injEq] at ht
        obtain ⟨rfl, ht⟩ := ht
        simp only [meet, if_true]
        rw [ih (by simpa using hn) (by simpa using hm) ht (fun s t h k => hs s t (by simpa using h) (by simpa using k))]
theorem take_two {p q : List St} {n : Nat} {s : St} (h : p.take n = q.take n) (hp : p[n]? = some s) (hq : q[n]? = some s) : p.take (n + 1) = q.take (n + 1) := by
  rw [List.take_add_one, List.take_add_one, h, hp, hq]
set_option maxHeartbeats 1000000 in
set_option maxRecDepth 100000 in
theorem meeting_any (p q : List St) (A B : Option Addr) (c d : Nat) (w : World) (hA : PathAt w A p) (hB : PathAt w B q) (hp : p.length ≤ 1000) (hq : q.length ≤ 1000) :
    Calls Try.prog 95 #[.slice A p.length c, .slice B q.length d] w fun e w' => e = .returned (.int .i64 (meet p q : Nat)) ∧ Below w.heap.size w w' := by
  go_enter Try.func95, Try.ntmps95
  go_wp2_with fail
  go_loopw [5] (fun iv wr => ∃ i : Nat, iv = .int .i64 i ∧ i ≤ p.length ∧ i ≤ q.length ∧ p.take i = q.take i ∧ Below w.heap.size w wr) (fun iv _ => p.length - (intOf iv).toNat)
  case atStart => exact ⟨0, rfl, Nat.zero_le _, Nat.zero_le _, by simp, Below.refl _ _⟩
  case round =>
    obtain ⟨i, rfl, hi, hi2, ht, hbel⟩ := hrel
    have HT := Lib.hid ht
    have HB := Lib.hid hbel
    clear ht hbel
    by_cases h1 : i < p.length
    · by_cases h2 : i < q.length
      · obtain ⟨s, hs⟩ : ∃ s, p[i]? = some s := ⟨p[i], List.getElem?_eq_getElem h1⟩
        obtain ⟨t, ht⟩ : ∃ t, q[i]? = some t := ⟨q[i], List.getElem?_eq_getElem h2⟩
        obtain ⟨ad, rfl, hbl, hc, -⟩ := hA i s hs
        obtain ⟨bd, rfl, hbl2, hc2, -⟩ := hB i t ht
        obtain ⟨q0, q1, q2⟩ := hc.below HB.out hbl
        obtain ⟨r0, r1, r2⟩ := hc2.below HB.out hbl2
        have HS := Lib.hid hs
        have HT2 := Lib.hid ht
        clear hc hc2 hs ht hbl hbl2
        obtain ⟨sk, sa, si⟩ := s
        obtain ⟨tk, ta, ti⟩ := t
        simp only at q0 q1 q2 r0 r1 r2
        by_cases ek : sk = tk
        · by_cases ea : sa = ta
          · by_cases ei : si = ti
            · subst ek ea ei
              have HN := Lib.hid (take_two HT.out HS.out HT2.out)
              go_wp2_with fail
              go_quiet (fail)
              go_wp2_with fail
              exact ⟨⟨i + 1, by go_num, by omega, by omega, HN.out, below_drewN3 HB.out _⟩, by simp [intOf]; omega⟩
            · have HM := Lib.hid (meet_eq hi hi2 HT.out (fun s t h k => by rw [HS.out] at h; rw [HT2.out] at k; cases h; cases k; simp [ei]))
              have ek' := bytes_eq ek
              have ei' : (si == ti) = false := by simpa using ei
              subst ea
              clear ek ei
              go_wp2_with fail
              go_quiet (fail)
              go_wp2_with fail
              go_ret
              exact ⟨ret_int (by rw [HM.out]), below_drewN3 HB.out _⟩
          · have HM := Lib.hid (meet_eq hi hi2 HT.out (fun s t h k => by rw [HS.out] at h; rw [HT2.out] at k; cases h; cases k; simp [ea]))
            have ek' := bytes_eq ek
            have ea' : (sa == ta) = false := by simpa using ea
            clear ek ea
            go_wp2_with fail
            go_quiet (fail)
            go_wp2_with fail
            go_ret
            exact ⟨ret_int (by rw [HM.out]), below_drewN3 HB.out _⟩
        · have HM := Lib.hid (meet_eq hi hi2 HT.out (fun s t h k => by rw [HS.out] at h; rw [HT2.out] at k; cases h; cases k; simp [ek]))
          have ek' := bytes_ne ek
          clear ek
          go_wp2_with fail
          go_quiet (fail)
          go_wp2_with fail
          go_ret
          exact ⟨ret_int (by rw [HM.out]), below_drewN3 HB.out _⟩
      · have HM := Lib.hid (meet_eq hi hi2 HT.out (fun s t h k => by rw [List.getElem?_eq_none (by omega)] at k; cases k))
        go_wp2_with fail
        go_quiet (fail)
        go_wp2_with fail
        go_ret
        exact ⟨ret_int (by rw [HM.out]), below_drewN3 HB.out _⟩
    · have HM := Lib.hid (meet_eq hi hi2 HT.out (fun s t h k => by rw [List.getElem?_eq_none (by omega)] at h; cases h))
      go_wp2_with fail
      go_quiet (fail)
      go_wp2_with fail
      go_ret
      exact ⟨ret_int (by rw [HM.out]), below_drewN3 HB.out _⟩
end Go.Proofs.Ytmdlcalnncncjaa

set_option linter.unusedVariables false
set_option linter.unusedSimpArgs false
namespace Go.Proofs.Ytmdlcalnncncjaa
open Go.RowKit
set_option maxHeartbeats 2000000 in
set_option maxRecDepth 100000 in
theorem clone_in (s : ByteArray) (hs : s.size ≤ 4294967296) (w : World) : Calls Try.prog 106 #[.string s] w fun e w' => e = .returned (.string s) ∧ Below w.heap.size w w' := by
  by_cases h0 : s.size = 0
  · obtain rfl : s = ⟨#[]⟩ := ByteArray.ext (Array.eq_empty_of_size_eq_zero h0)
    go_enter Try.func106, Try.ntmps106
    go_wp2
    go_ret
    exact ⟨rfl, Below.refl _ _⟩
  · obtain ⟨i0, hi, hz0, hz1, hz2⟩ := info_parts info5
    have hinfo : (Try.prog.info? 5).map (·.size) = some 1 := by rw [hi]; simp [hz1]
    obtain ⟨M, hM⟩ : ∃ M, M = madeCells (Value.int .u8 0).cells (((s.size : Nat) : Int).toNat * i0.size) := ⟨_, rfl⟩
    have hMs : M.size = s.size := by rw [hM, size_madeCells, hz1]; simp
    have hmk : ∀ W : World, (Instr.makeSlice 119 (.int .i64 (s.size : Int)) (.int .i64 (s.size : Int))).run Try.prog W = .ok (.slice (some ⟨W.heap.size, 0, none⟩) s.size s.size) (W.alloc (.cells M 5)) := fun W => by
      have h := run_make (P := Try.prog) W 119 5 i0 (.int .u8 0) Try.underlying119 hi hz0 .i64 .i64 (s.size : Int) (s.size : Int) (by omega) (by omega) (by rw [hz2]; omega) (by omega)
      rw [← hM] at h
      simpa using h
    clear hM
    have hcp := Lib.run_copy_row_string (P := Try.prog) (w.alloc (.cells M 5)) 119 9 3 5 w.heap.size 0 s.size s.size s M 5 Try.underlying119 hinfo (heap_alloc_new w _) (Nat.le_refl _) (by omega)
    obtain ⟨Y, hY⟩ : ∃ Y, Y = (M.toList.take 0 ++ Lib.byteCells s.data.toList ++ M.toList.drop (0 + s.size)).toArray := ⟨_, rfl⟩
    rw [← hY] at hcp
    have hYl : Y.toList = Lib.byteCells s.data.toList := by
      rw [hY, List.toList_toArray, List.take_zero, List.nil_append, List.drop_of_length_le (by rw [Array.length_toList]; omega), List.append_nil]
    have hYs : Y.size = s.size := by rw [← Array.length_toList, hYl, Lib.byteCells_length, ← Lib.size_eq]
    have hgY : ((w.alloc (.cells M 5)).setRow w.heap.size Y).heap[w.heap.size]? = some (.cells Y 5 (0, 0)) := setRow_heap _ _ M _ 5 (0, 0) (heap_alloc_new w _)
    have hne : s.data.toList ≠ [] := fun e => h0 (by rw [Lib.size_eq, e]; rfl)
    have hUS := Lib.run_unsafeString_row (P := Try.prog) ((w.alloc (.cells M 5)).setRow w.heap.size Y) 120 3 9 5 Try.underlying120 (by kernel_rfl) w.heap.size Y.size (by unfold World.shape?; rw [hgY]) s.data.toList hne (by rw [← Lib.size_eq]; omega) (by rw [← Lib.size_eq]; omega)
      (fun j x hx => Lib.cells_of_row hgY Y.size j _ (by rw [List.take_of_length_le (by rw [Array.length_toList]; exact Nat.le_refl _), hYl]; simp [Lib.byteCells, hx]))
    rw [← Lib.size_eq] at hUS
    clear hY
    go_enter Try.func106, Try.ntmps106
    go_wp2
    go_ret
    have hb1 : Below w.heap.size w (w.alloc (.cells M 5)) := (Below.refl _ w).alloc (Nat.le_refl _) _
    have hb2 : Below w.heap.size (w.alloc (.cells M 5)) ((w.alloc (.cells M 5)).setRow w.heap.size Y) := ⟨rfl, rfl, rfl, by simp, fun k hk => setRow_other _ _ _ _ (by omega)⟩
    exact ⟨rfl, Lib.below_freeze (hb1.trans hb2) (p := ⟨w.heap.size, 0, none⟩) (Nat.le_refl _) _⟩
theorem clone_any (s : ByteArray) (hs : s.size ≤ 4294967296) (w : World) : Calls Try.prog 77 #[.string s] w fun e w' => e = .returned (.string s) ∧ Below w.heap.size w w' := by
  go_enter Try.func77, Try.ntmps77
  go_wp2_with (go_at_call 106; refine (clone_in _ hs _).mono ?_; rintro e w' ⟨rfl, hb⟩)
  go_ret
  exact ⟨rfl, hb⟩
end Go.Proofs.Ytmdlcalnncncjaa

/- path.Less, Under, Same, Key, Place; the reference's Few. -/
set_option linter.unusedVariables false
set_option linter.unusedSimpArgs false
namespace Go.Proofs.Ytmdlcalnncncjaa
open Go.RowKit
theorem bLess_lt : ∀ (x y : List UInt8), Op.bytesLess x y = decide (x < y)
  | [], [] => by simp [Op.bytesLess]
  | _ :: _, [] => by simp [Op.bytesLess]
  | [], _ :: _ => by simp [Op.bytesLess]
  | a :: x, b :: y => by
    rw [Op.bytesLess, bLess_lt x y]
    simp only [List.cons_lt_cons_iff]
    by_cases h1 : a < b <;> by_cases h2 : a = b <;> by_cases h3 : x < y <;> simp [h1, h2, h3]
def lessK (x y : ByteArray) : Bool := Op.bytesLess x.toList y.toList
theorem lessK_irrefl (x : ByteArray) : lessK x x = false := by simp [lessK, bLess_lt, List.lt_irrefl]
theorem lessK_trans {x y z : ByteArray} (h1 : lessK x y = true) (h2 : lessK y z = true) : lessK x z = true := by
  simp only [lessK, bLess_lt, decide_eq_true_eq] at *
  exact List.lt_trans h1 h2
/-- One step ahead of another. -/
def lessS (s t : St) : Bool := if s.i = t.i then (if s.k = t.k then decide (s.a < t.a) else lessK s.k t.k) else t.i
theorem lessS_irrefl (s : St) : lessS s s = false := by simp [lessS]
theorem lessS_trans {s t u : St} (h : lessS s t = true) (k : lessS t u = true) : lessS s u = true := by
  obtain ⟨sk, sa, si⟩ := s
  obtain ⟨tk, ta, ti⟩ := t
  obtain ⟨uk, ua, ui⟩ := u
  simp only [lessS] at *
  by_cases e1 : si = ti
  · subst e1
    rw [if_pos rfl] at h
    by_cases e2 : si = ui
    · subst e2
      rw [if_pos rfl] at k ⊢
      by_cases f1 : sk = tk
      · subst f1
        rw [if_pos rfl] at h
        by_cases f2 : sk = uk
        · subst f2
          rw [if_pos rfl] at k ⊢
          simp at *
          omega
        · rw [if_neg f2] at k ⊢
          exact k
      · rw [if_neg f1] at h
        by_cases f2 : tk = uk
        · subst f2
          rw [if_neg f1]
          exact h
        · rw [if_neg f2] at k
          have h3 := lessK_trans h k
          by_cases f3 : sk = uk
          · subst f3
            rw [lessK_irrefl] at h3
            cases h3
          · rw [if_neg f3]
            exact h3
    · rw [if_neg e2] at k ⊢
      exact k
  · rw [if_neg e1] at h
    subst h
    by_cases e2 : (true : Bool) = ui
    · subst e2
      rw [if_neg e1]
    · rw [if_neg e2] at k
      exact absurd k.symm e2
def lessL : List St → List St → Bool
  | [], [] => false
  | [], _ :: _ => true
  | _ :: _, [] => false
  | x :: p, y :: q => if x = y then lessL p q else lessS x y
theorem lessL_trans : ∀ {p q r : List St}, lessL p q = true → lessL q r = true → lessL p r = true
  | [], [], r, h, _ => by simp [lessL] at h
  | [], y :: q, [], _, k => by simp [lessL] at k
  | [], y :: q, z :: r, _, _ => rfl
  | x :: p, [], r, h, _ => by simp [lessL] at h
  | x :: p, y :: q, [], _, k => by simp [lessL] at k
  | x :: p, y :: q, z :: r, h, k => by
    simp only [lessL] at *
    by_cases e1 : x = y
    · subst e1
      rw [if_pos rfl] at h
      by_cases e2 : x = z
      · subst e2
        rw [if_pos rfl] at k ⊢
        exact lessL_trans h k
      · rw [if_neg e2] at k ⊢
        exact k
    · rw [if_neg e1] at h
      by_cases e2 : y = z
      · subst e2
        rw [if_neg e1]
        exact h
      · rw [if_neg e2] at k
        have h3 := lessS_trans h k
        by_cases e3 : x = z
        · subst e3
          rw [lessS_irrefl] at h3
          cases h3
        · rw [if_neg e3]
          exact h3
/-- What the meeting tells of Less. -/
theorem lessL_end : ∀ {p q : List St}, (meet p q = p.length ∨ meet p q = q.length) → lessL p q = decide (p.length < q.length)
  | [], [], _ => by simp [lessL]
  | [], y :: q, _ => by simp [lessL]
  | x :: p, [], _ => by simp [lessL]
  | x :: p, y :: q, h => by
    simp only [meet] at h
    simp only [lessL]
    by_cases e : x = y
    · rw [if_pos e] at h ⊢
      rw [lessL_end (p := p) (q := q) (by simp at h; omega)]
      simp
    · rw [if_neg e] at h
      simp at h
theorem lessL_at : ∀ {p q : List St} {s t : St}, p[meet p q]? = some s → q[meet p q]? = some t → lessL p q = lessS s t
  | [], q, s, t, h, _ => by simp at h
  | x :: p, [], s, t, _, h => by simp at h
  | x :: p, y :: q, s, t, h, k => by
    simp only [meet] at h k
    simp only [lessL]
    by_cases e : x = y
    · rw [if_pos e] at h k ⊢
      exact lessL_at (by simpa using h) (by simpa using k)
    · rw [if_neg e] at h k ⊢
      simp at h k
      rw [h, k]
theorem meet_self (p : List St) : meet p p = p.length := by
  induction p with
  | nil => rfl
  | cons x p ih => simp [meet, ih]
theorem meet_comm : ∀ p q : List St, meet p q = meet q p
  | [], [] => rfl
  | [], y :: q => by simp [meet]
  | x :: p, [] => by simp [meet]
  | x :: p, y :: q => by
    simp only [meet]
    by_cases e : x = y
    · rw [if_pos e, if_pos e.symm, meet_comm p q]
    · rw [if_neg e, if_neg (fun h => e h.symm)]
set_option maxHeartbeats 1000000 in
theorem lessStep_any (s t : St) (w : World) : Calls Try.prog 96 #[.agg #[.string s.k, .int .i64 s.a, .bool s.i], .agg #[.string t.k, .int .i64 t.a, .bool t.i]] w fun e w' => e = .returned (.bool (lessS s t)) ∧ Below w.heap.size w w' := by
  obtain ⟨sk, sa, si⟩ := s
  obtain ⟨tk, ta, ti⟩ := t
  have hl : lessS ⟨sk, sa, si⟩ ⟨tk, ta, ti⟩ = if si = ti then (if sk = tk then decide (sa < ta) else lessK sk tk) else ti := rfl
  generalize lessS ⟨sk, sa, si⟩ ⟨tk, ta, ti⟩ = r at hl ⊢
  have HB0 : Hid (Below w.heap.size w ((w.alloc (Obj.cells #[.string sk, .int .i64 sa, .bool si] 72)).alloc (Obj.cells #[.string tk, .int .i64 ta, .bool ti] 72))) := Lib.hid (((Below.refl _ _).alloc (Nat.le_refl _) _).alloc (by simp) _)
  by_cases ei : si = ti
  · subst ei
    rw [if_pos rfl] at hl
    by_cases ek : sk = tk
    · have ek' := bytes_eq ek
      subst ek
      rw [if_pos rfl] at hl
      have HL := Lib.hid hl
      clear hl
      go_enter Try.func96, Try.ntmps96
      go_wp2_with fail
      go_ret
      exact ⟨ret_bool HL.out.symm, HB0.out⟩
    · have ek' := bytes_ne ek
      rw [if_neg ek] at hl
      have HL := Lib.hid hl
      clear ek hl
      go_enter Try.func96, Try.ntmps96
      go_wp2_with fail
      go_ret
      exact ⟨ret_bool HL.out.symm, HB0.out⟩
  · have ei' : (si == ti) = false := by simpa using ei
    rw [if_neg ei] at hl
    have HL := Lib.hid hl
    clear ei hl
    go_enter Try.func96, Try.ntmps96
    go_wp2_with fail
    go_ret
    exact ⟨ret_bool HL.out.symm, HB0.out⟩
set_option maxHeartbeats 1000000 in
set_option maxRecDepth 100000 in
theorem less_any (p q : List St) (A B : Option Addr) (c d : Nat) (w : World) (hA : PathAt w A p) (hB : PathAt w B q) (hp : p.length ≤ 1000) (hq : q.length ≤ 1000) :
    Calls Try.prog 58 #[.slice A p.length c, .slice B q.length d] w fun e w' => e = .returned (.bool (lessL p q)) ∧ Below w.heap.size w w' := by
  have H1 := Lib.hid (meeting_any p q A B c d w hA hB hp hq)
  have HA := Lib.hid hA
  have HBB := Lib.hid hB
  have hml := meet_le p q
  have HLE := Lib.hid (lessL_end (p := p) (q := q))
  have HLA := Lib.hid (fun s t => lessL_at (p := p) (q := q) (s := s) (t := t))
  obtain ⟨m, hm⟩ : ∃ m : Nat, m = meet p q := ⟨_, rfl⟩
  rw [← hm] at hml H1 HLE
  have HLA2 : Hid (∀ s t, p[m]? = some s → q[m]? = some t → lessL p q = lessS s t) := Lib.hid (fun s t h k => HLA.out s t (by rw [← hm]; exact h) (by rw [← hm]; exact k))
  clear hA hB hm HLA
  go_enter Try.func58, Try.ntmps58
  go_wp2_with fail
  refine H1.out.mono ?_
  rintro e w1 ⟨rfl, hb1⟩
  have HB1 := Lib.hid hb1
  clear hb1 H1
  by_cases h1 : m = p.length
  · have HL := Lib.hid (HLE.out (.inl h1))
    subst h1
    go_wp2_with fail
    go_ret
    exact ⟨ret_bool (by rw [HL.out]), HB1.out⟩
  · by_cases h2 : m = q.length
    · have HL := Lib.hid (HLE.out (.inr h2))
      have h1' : ((m : Int) == (p.length : Int)) = false := by simp; omega
      subst h2
      clear h1
      go_wp2_with fail
      go_ret
      exact ⟨ret_bool (by rw [HL.out]), HB1.out⟩
    · have h1' : ((m : Int) == (p.length : Int)) = false := by simp; omega
      have h2' : ((m : Int) == (q.length : Int)) = false := by simp; omega
      have hm1 : m < p.length := by omega
      have hm2 : m < q.length := by omega
      obtain ⟨s, hs⟩ : ∃ s, p[m]? = some s := ⟨p[m], List.getElem?_eq_getElem hm1⟩
      obtain ⟨t, ht⟩ : ∃ t, q[m]? = some t := ⟨q[m], List.getElem?_eq_getElem hm2⟩
      have HL := Lib.hid (HLA2.out s t hs ht)
      obtain ⟨ad, rfl, hbl, hc, -⟩ := HA.out m s hs
      obtain ⟨bd, rfl, hbl2, hc2, -⟩ := HBB.out m t ht
      obtain ⟨q0, q1, q2⟩ := hc.below HB1.out hbl
      obtain ⟨r0, r1, r2⟩ := hc2.below HB1.out hbl2
      clear h1 h2 hs ht hc hc2 hbl hbl2 HLE HLA2 hml HA HBB
      have K : Hid (∀ w : World, Calls Try.prog 96 #[.agg #[.string s.k, .int .i64 s.a, .bool s.i], .agg #[.string t.k, .int .i64 t.a, .bool t.i]] w fun e w' => e = .returned (.bool (lessS s t)) ∧ Below w.heap.size w w') := Lib.hid (lessStep_any s t)
      go_wp2_with fail
      go_still_tail 8, (by kernel_rfl)
      change wpList _ _ _ _ _ w1.drew
      have hbd : Below w1.heap.size w1 w1.drew := (Below.refl _ _).drew
      generalize w1.drew = w2 at hbd ⊢
      have HBD := Lib.hid hbd
      clear hbd
      go_wp2_with fail
      refine (K.out w2).mono ?_
      rintro e w3 ⟨rfl, hb3⟩
      have HB3 := Lib.hid hb3
      clear hb3
      go_wp2_with fail
      go_ret
      exact ⟨ret_bool HL.out.symm, HB1.out.trans ((HBD.out.trans (HB3.out.mono HBD.out.size)).mono HB1.out.size)⟩
theorem under_any (p q : List St) (A B : Option Addr) (c d : Nat) (w : World) (hA : PathAt w A p) (hB : PathAt w B q) (hp : p.length ≤ 1000) (hq : q.length ≤ 1000) :
    Calls Try.prog 61 #[.slice A p.length c, .slice B q.length d] w fun e w' => e = .returned (.bool (decide (meet p q = p.length))) ∧ Below w.heap.size w w' := by
  have H1 := Lib.hid (meeting_any p q A B c d w hA hB hp hq)
  clear hA hB
  generalize meet p q = m at *
  go_enter Try.func61, Try.ntmps61
  go_wp2_with fail
  refine H1.out.mono ?_
  rintro e w1 ⟨rfl, hb1⟩
  have HB1 := Lib.hid hb1
  clear hb1 H1
  by_cases h1 : m = p.length
  · subst h1
    go_wp2_with fail
    go_ret
    exact ⟨ret_bool (by simp), HB1.out⟩
  · have h1' : ((m : Int) == (p.length : Int)) = false := by simp; omega
    have HE := Lib.hid h1
    clear h1
    go_wp2_with fail
    go_ret
    exact ⟨ret_bool (by rw [decide_eq_false HE.out]), HB1.out⟩
theorem same_path (p q : List St) (A B : Option Addr) (c d : Nat) (w : World) (hA : PathAt w A p) (hB : PathAt w B q) (hp : p.length ≤ 1000) (hq : q.length ≤ 1000) :
    Calls Try.prog 62 #[.slice A p.length c, .slice B q.length d] w fun e w' => e = .returned (.bool (decide (p.length = q.length ∧ meet p q = p.length))) ∧ Below w.heap.size w w' := by
  have H1 := Lib.hid (meeting_any p q A B c d w hA hB hp hq)
  clear hA hB
  generalize meet p q = m at *
  by_cases h0 : p.length = q.length
  · have h0' : ((p.length : Int) == (q.length : Int)) = true := by simp; omega
    have HE0 := Lib.hid h0
    clear h0
    go_enter Try.func62, Try.ntmps62
    go_wp2_with fail
    refine H1.out.mono ?_
    rintro e w1 ⟨rfl, hb1⟩
    have HB1 := Lib.hid hb1
    clear hb1 H1
    by_cases h1 : m = p.length
    · have h1' : ((m : Int) == (p.length : Int)) = true := by simp; omega
      have HE := Lib.hid h1
      clear h1
      go_wp2_with fail
      go_ret
      exact ⟨ret_bool (by rw [decide_eq_true ⟨HE0.out, HE.out⟩]), HB1.out⟩
    · have h1' : ((m : Int) == (p.length : Int)) = false := by simp; omega
      have HE := Lib.hid h1
      clear h1
      go_wp2_with fail
      go_ret
      exact ⟨ret_bool (by rw [decide_eq_false (fun h => HE.out h.2)]), HB1.out⟩
  · have h0' : ((p.length : Int) == (q.length : Int)) = false := by simp; omega
    have HE0 := Lib.hid h0
    clear h0
    go_enter Try.func62, Try.ntmps62
    go_wp2_with fail
    go_ret
    exact ⟨ret_bool (by rw [decide_eq_false (fun h => HE0.out h.1)]), Below.refl _ _⟩
end Go.Proofs.Ytmdlcalnncncjaa

/- The reference's few: how many values, and how long their texts. -/
set_option linter.unusedVariables false
set_option linter.unusedSimpArgs false
namespace Go.Proofs.Ytmdlcalnncncjaa
open Go.RowKit
mutual
def Va.Sh : Va → Prop
  | .mk _ _ s l ks f => s.size ≤ 500 ∧ ShL l ∧ (∀ x ∈ ks, x.size ≤ 500) ∧ ShL f
def ShL : List Va → Prop
  | [] => True
  | x :: r => x.Sh ∧ ShL r
end
def FewR (a : Va) (n r : Int) : Prop := -1 ≤ r ∧ r ≤ n ∧ (0 ≤ r → a.Sh ∧ r + a.cnt = n)
def FewL (l : List Va) (i : Nat) (n m : Int) : Prop := -1 ≤ m ∧ m ≤ n ∧ (0 ≤ m → ShL (l.take i) ∧ m + cntL (l.take i) = n)
theorem ShL_app : ∀ (l r : List Va), ShL (l ++ r) ↔ ShL l ∧ ShL r
  | [], r => by simp [ShL]
  | x :: l, r => by simp [ShL, ShL_app l r, and_assoc]
theorem cntL_app : ∀ (l r : List Va), cntL (l ++ r) = cntL l + cntL r
  | [], r => by simp [cntL]
  | x :: l, r => by simp [cntL, cntL_app l r, Nat.add_assoc]
theorem take_next {α : Type} {l : List α} {i : Nat} {x : α} (h : l[i]? = some x) : l.take (i + 1) = l.take i ++ [x] := by
  rw [List.take_add_one, h]; rfl
theorem FewL.start (l : List Va) (n : Int) (h : -1 ≤ n) : FewL l 0 n n := ⟨h, Int.le_refl _, fun _ => ⟨by simp [ShL], by simp [cntL]⟩⟩
theorem FewL.step {l : List Va} {i : Nat} {x : Va} {n m r : Int} (h : FewL l i n m) (hx : l[i]? = some x) (hm : 0 ≤ m) (hr : FewR x m r) : FewL l (i + 1) n r := by
  obtain ⟨h1, h2, h3⟩ := h
  obtain ⟨r1, r2, r3⟩ := hr
  refine ⟨r1, by omega, fun h0 => ?_⟩
  obtain ⟨s1, s2⟩ := r3 h0
  obtain ⟨t1, t2⟩ := h3 hm
  rw [take_next hx, ShL_app, cntL_app]
  refine ⟨⟨t1, by simp [ShL, s1]⟩, ?_⟩
  simp only [cntL]
  omega
theorem FewL.all {l : List Va} {i : Nat} {n m : Int} (h : FewL l i n m) (hi : l.length ≤ i) (hm : 0 ≤ m) : ShL l ∧ m + cntL l = n := by
  have := h.2.2 hm
  rwa [List.take_of_length_le hi] at this
def FewK (ks : List ByteArray) (i : Nat) (m : Int) : Prop := 0 ≤ m → ∀ x ∈ ks.take i, x.size ≤ 500
theorem FewK.step {ks : List ByteArray} {i : Nat} {x : ByteArray} {m r : Int} (h : FewK ks i m) (hx : ks[i]? = some x) (hm : 0 ≤ m) (hs : x.size ≤ 500) : FewK ks (i + 1) r := by
  intro _ y hy
  rw [take_next hx] at hy
  rcases List.mem_append.1 hy with hy | hy
  · exact h hm y hy
  · simp at hy; subst hy; exact hs
set_option maxHeartbeats 400000 in
set_option maxRecDepth 100000 in
theorem few_any : ∀ (a : Va) (S : Nat → Prop) (h : Hd) (w : World) (n : Int), Lies w S a h → -1 ≤ n → n ≤ 1000 → Calls Try.prog 63 #[h.val, .int .i64 n] w fun e w' => ∃ r : Int, e = .returned (.int .i64 r) ∧ FewR a n r ∧ Below w.heap.size w w' := by
  intro a
  induction a using Va.ind with
  | h k nn s l ks f ihl ihf =>
  intro S h w n H hn hn2
  have Hop := H.op
  simp only [Lies] at H
  obtain ⟨⟨e1, e2, e3, e4, e5, e6⟩, ⟨b1, b2, b3, b4, b5, b6, b7, b8⟩, _, _⟩ := H
  obtain ⟨hk, hnn, hs, A, la, lc, F, lf, fc⟩ := h
  simp only at e1 e2 e3 e4 e5 b7 b8
  subst e1 e2 e3
  unfold Hd.val
  have hml : maxLen ≤ 9223372036854775807 := by decide
  have b5' : l.length ≤ 9223372036854775807 := Nat.le_trans b5 hml
  have b6' : f.length ≤ 9223372036854775807 := Nat.le_trans b6 hml
  clear hml
  by_cases h1 : n < 1
  · go_enter Try.func63, Try.ntmps63
    go_wp2_with fail
    go_ret
    exact ⟨-1, rfl, ⟨by omega, by omega, fun h => by omega⟩, (Below.refl _ _).alloc (Nat.le_refl _) _⟩
  by_cases h2 : 500 < hs.size
  · go_enter Try.func63, Try.ntmps63
    go_wp2_with fail
    go_ret
    exact ⟨-1, rfl, ⟨by omega, by omega, fun h => by omega⟩, (Below.refl _ _).alloc (Nat.le_refl _) _⟩
  go_enter Try.func63, Try.ntmps63
  go_wp2_with fail
  go_loopw [1, 5] (fun nv iv wr => ∃ (i : Nat) (m : Int), nv = .int .i64 m ∧ iv = .int .i64 i ∧ i ≤ l.length ∧ FewL l i (n - 1) m ∧ BoxAt w wr ⟨hk, hnn, hs, A, l.length, lc, F, f.length, fc⟩) (fun _ iv _ => l.length - (intOf iv).toNat)
  case atStart => exact ⟨0, n - 1, rfl, rfl, Nat.zero_le _, FewL.start _ _ (by omega), BoxAt.start w ⟨hk, hnn, hs, A, l.length, lc, F, f.length, fc⟩ 25⟩
  case round =>
    obtain ⟨i, m, rfl, rfl, hi, hfl, hbx⟩ := hrel
    have HFL := Lib.hid hfl
    have hm1 := hfl.1
    have hm2 := hfl.2.1
    clear hfl
    have cA := hbx.2.2 3 _ rfl
    have cF := hbx.2.2 4 _ rfl
    have HB := Lib.hid hbx
    clear hbx
    by_cases hc : i < l.length ∧ 0 ≤ m
    · obtain ⟨hlt, hm0⟩ := hc
      obtain ⟨ad, u, rfl, _, hbl, hLu, hcell⟩ := Hop.L i _ (List.getElem?_eq_getElem hlt)
      obtain ⟨k0, k1, k2, k3, k4⟩ := hcell.below HB.out.1 hbl
      have hLu' := Lib.hid (hLu.below HB.out.1 (Nat.le_refl _))
      have ihx := Lib.hid (ihl l[i] (List.getElem_mem hlt))
      clear hcell hLu ihl ihf
      go_wp2_with fail
      refine (ihx.out S u _ m hLu'.out (by omega) (by omega)).mono ?_
      rintro e w1 ⟨r, rfl, hr, hb1⟩
      go_wp2_with fail
      have hst := HFL.out.step (List.getElem?_eq_getElem hlt) hm0 hr
      exact ⟨⟨i + 1, r, rfl, by go_num, by omega, hst, HB.out.go hb1 (Nat.le_refl _)⟩, by simp [intOf]; omega⟩
    · have hrest : Hid (0 ≤ m → ShL l ∧ m + cntL l = n - 1) := fun h0 => HFL.out.all (by omega) h0
      clear HFL ihl
      rcases (by omega : ¬ i < l.length ∨ (i < l.length ∧ ¬ 0 ≤ m)) with hx | ⟨hx, hx2⟩
      all_goals go_wp2_with fail
      all_goals (
        go_loopw [1, 6] (fun nv iv wx => ∃ (i : Nat) (m' : Int), nv = .int .i64 m' ∧ iv = .int .i64 i ∧ i ≤ f.length ∧ FewL f i m m' ∧ FewK ks i m' ∧ BoxAt w wx ⟨hk, hnn, hs, A, l.length, lc, F, f.length, fc⟩) (fun _ iv _ => f.length - (intOf iv).toNat)
        case atStart => exact ⟨0, m, rfl, rfl, Nat.zero_le _, FewL.start _ _ hm1, fun _ => by simp, HB.out⟩
        case round =>
          obtain ⟨i', m', rfl, rfl, hi', hfl, hfk, hbx⟩ := hrel
          have HFL := Lib.hid hfl
          have HFK := Lib.hid hfk
          have hm1' := hfl.1
          have hm2' := hfl.2.1
          clear hfl hfk
          have cF := hbx.2.2 4 _ rfl
          have HB' := Lib.hid hbx
          clear hbx
          by_cases hc' : i' < f.length ∧ 0 ≤ m'
          · obtain ⟨hlt, hm0⟩ := hc'
            first | (exfalso; omega) | (
              obtain ⟨ad, u, key, rfl, _, hbl, hkey, hkl, hLu, hcell⟩ := Hop.K i' _ (List.getElem?_eq_getElem hlt)
              obtain ⟨k0, k1, k2, k3, k4, k5⟩ := hcell.below HB'.out.1 hbl
              have hLu' := Lib.hid (hLu.below HB'.out.1 (Nat.le_refl _))
              have ihx := Lib.hid (ihf f[i'] (List.getElem_mem hlt))
              have HK := Lib.hid hkey
              clear hcell hLu ihf hkey
              by_cases hks : 500 < key.size
              · go_wp2_with fail
                go_ret
                exact ⟨-1, rfl, ⟨by omega, by omega, fun h => by omega⟩, HB'.out.1⟩
              · go_wp2_with fail
                refine (ihx.out S u _ m' hLu'.out (by omega) (by omega)).mono ?_
                rintro e w1 ⟨r, rfl, hr, hb1⟩
                go_wp2_with fail
                have hst := HFL.out.step (List.getElem?_eq_getElem hlt) hm0 hr
                have hsk := HFK.out.step (r := r) HK.out hm0 (by omega)
                exact ⟨⟨i' + 1, r, rfl, by go_num, by omega, hst, hsk, HB'.out.go hb1 (Nat.le_refl _)⟩, by simp [intOf]; omega⟩)
          · have hlast : FewR (.mk hk hnn hs l ks f) n m' := by
              refine ⟨hm1', by omega, fun h0 => ?_⟩
              have h3 := HFL.out.all (by omega) h0
              have h4 := hrest.out (by omega)
              have h5 := HFK.out h0
              rw [List.take_of_length_le (by omega)] at h5
              simp only [Va.Sh, Va.cnt]
              exact ⟨⟨by omega, h4.1, h5, h3.1⟩, by omega⟩
            have HLA := Lib.hid hlast
            clear hlast
            rcases (by omega : ¬ i' < f.length ∨ (i' < f.length ∧ ¬ 0 ≤ m')) with hx | ⟨hx, hx2⟩
            all_goals go_wp2_with fail
            all_goals go_ret
            all_goals exact ⟨m', rfl, HLA.out, HB'.out.1⟩)
end Go.Proofs.Ytmdlcalnncncjaa

/- The reference's Count. -/
set_option linter.unusedVariables false
set_option linter.unusedSimpArgs false
namespace Go.Proofs.Ytmdlcalnncncjaa
open Go.RowKit
theorem cntL_take_step {l : List Va} {i : Nat} {x : Va} (h : l[i]? = some x) : cntL (l.take (i + 1)) = cntL (l.take i) + x.cnt := by
  rw [take_next h, cntL_app]; simp [cntL]
theorem cntL_take_le (l : List Va) (i : Nat) : cntL (l.take i) ≤ cntL l := by
  have := cntL_app (l.take i) (l.drop i)
  rw [List.take_append_drop] at this
  omega
set_option maxHeartbeats 400000 in
set_option maxRecDepth 100000 in
theorem count_ref : ∀ (a : Va) (S : Nat → Prop) (h : Hd) (w : World), Lies w S a h → a.cnt ≤ 100000 → Calls Try.prog 20 #[h.val] w fun e w' => e = .returned (.int .i64 (a.cnt : Nat)) ∧ Below w.heap.size w w' := by
  intro a
  induction a using Va.ind with
  | h k nn s l ks f ihl ihf =>
  intro S h w H hcn
  have Hop := H.op
  simp only [Lies] at H
  obtain ⟨⟨e1, e2, e3, e4, e5, e6⟩, ⟨b1, b2, b3, b4, b5, b6, b7, b8⟩, _, _⟩ := H
  obtain ⟨hk, hnn, hs, A, la, lc, F, lf, fc⟩ := h
  simp only at e1 e2 e3 e4 e5 b7 b8
  subst e1 e2 e3
  unfold Hd.val
  have hml : maxLen ≤ 9223372036854775807 := by decide
  have b5' : l.length ≤ 9223372036854775807 := Nat.le_trans b5 hml
  have b6' : f.length ≤ 9223372036854775807 := Nat.le_trans b6 hml
  clear hml
  have HC := Lib.hid (show (Va.mk hk hnn hs l ks f).cnt = 1 + cntL l + cntL f by simp only [Va.cnt])
  have hcn' : 1 + cntL l + cntL f ≤ 100000 := HC.out ▸ hcn
  clear hcn
  go_enter Try.func20, Try.ntmps20
  go_wp2_with fail
  go_loopw [3, 4] (fun nv iv wr => ∃ (i : Nat) (m : Nat), nv = .int .i64 m ∧ iv = .int .i64 i ∧ i ≤ l.length ∧ m = 1 + cntL (l.take i) ∧ BoxAt w wr ⟨hk, hnn, hs, A, l.length, lc, F, f.length, fc⟩) (fun _ iv _ => l.length - (intOf iv).toNat)
  case atStart => exact ⟨0, 1, rfl, rfl, Nat.zero_le _, by simp [cntL], BoxAt.start w ⟨hk, hnn, hs, A, l.length, lc, F, f.length, fc⟩ 25⟩
  case round =>
    obtain ⟨i, m, rfl, rfl, hi, hm, hbx⟩ := hrel
    have hmle : m ≤ 1 + cntL l := by have := cntL_take_le l i; omega
    have HM := Lib.hid hm
    clear hm
    have cA := hbx.2.2 3 _ rfl
    have cF := hbx.2.2 4 _ rfl
    have HB := Lib.hid hbx
    clear hbx
    by_cases hlt : i < l.length
    · obtain ⟨ad, u, rfl, _, hbl, hLu, hcell⟩ := Hop.L i _ (List.getElem?_eq_getElem hlt)
      obtain ⟨k0, k1, k2, k3, k4⟩ := hcell.below HB.out.1 hbl
      have hLu' := Lib.hid (hLu.below HB.out.1 (Nat.le_refl _))
      have ihx := Lib.hid (ihl l[i] (List.getElem_mem hlt))
      have hxc : l[i].cnt ≤ cntL l := cntL_mem (List.getElem_mem hlt)
      have hst := Lib.hid (cntL_take_step (List.getElem?_eq_getElem hlt))
      have hle := cntL_take_le l (i + 1)
      rw [hst.out] at hle
      generalize hx : l[i] = x at *
      clear hcell hLu ihl ihf
      obtain ⟨xc, hxe⟩ : ∃ xc, xc = x.cnt := ⟨_, rfl⟩
      rw [← hxe] at hxc hle hst
      have HX := Lib.hid hxe
      clear hxe hx
      go_wp2_with fail
      refine (ihx.out S u _ hLu'.out (by have := HX.out; omega)).mono ?_
      rintro e w1 ⟨rfl, hb1⟩
      rw [← HX.out]
      have hsum : m + xc ≤ 100001 := by have := HM.out; omega
      go_wp2_with fail
      refine ⟨⟨i + 1, m + xc, by go_num, by go_num, by omega, by have := HM.out; have := hst.out; omega, HB.out.go hb1 (Nat.le_refl _)⟩, by simp [intOf]; omega⟩
    · have hrest : Hid (m = 1 + cntL l) := by have := HM.out; rw [List.take_of_length_le (by omega)] at this; exact this
      clear HM ihl
      go_wp2_with fail
      go_loopw [3, 5] (fun nv iv wr => ∃ (i : Nat) (m' : Nat), nv = .int .i64 m' ∧ iv = .int .i64 i ∧ i ≤ f.length ∧ m' = m + cntL (f.take i) ∧ BoxAt w wr ⟨hk, hnn, hs, A, l.length, lc, F, f.length, fc⟩) (fun _ iv _ => f.length - (intOf iv).toNat)
      case atStart => exact ⟨0, m, rfl, rfl, Nat.zero_le _, by simp [cntL], HB.out⟩
      case round =>
        obtain ⟨i', m', rfl, rfl, hi', hm', hbx⟩ := hrel
        have hmle' : m' ≤ m + cntL f := by have := cntL_take_le f i'; omega
        have HM' := Lib.hid hm'
        clear hm'
        have cF := hbx.2.2 4 _ rfl
        have HB' := Lib.hid hbx
        clear hbx
        by_cases hlt' : i' < f.length
        · obtain ⟨ad, u, key, rfl, _, hbl, hkey, hkl, hLu, hcell⟩ := Hop.K i' _ (List.getElem?_eq_getElem hlt')
          obtain ⟨k0, k1, k2, k3, k4, k5⟩ := hcell.below HB'.out.1 hbl
          have hLu' := Lib.hid (hLu.below HB'.out.1 (Nat.le_refl _))
          have ihx := Lib.hid (ihf f[i'] (List.getElem_mem hlt'))
          have hxc : f[i'].cnt ≤ cntL f := cntL_mem (List.getElem_mem hlt')
          have hst := Lib.hid (cntL_take_step (List.getElem?_eq_getElem hlt'))
          have hle := cntL_take_le f (i' + 1)
          rw [hst.out] at hle
          generalize hx : f[i'] = x at *
          clear hcell hLu ihf hkey
          obtain ⟨xc, hxe⟩ : ∃ xc, xc = x.cnt := ⟨_, rfl⟩
          rw [← hxe] at hxc hle hst
          have HX := Lib.hid hxe
          clear hxe hx
          go_wp2_with fail
          refine (ihx.out S u _ hLu'.out (by have := HX.out; omega)).mono ?_
          rintro e w1 ⟨rfl, hb1⟩
          rw [← HX.out]
          have hsum : m' + xc ≤ 200002 := by omega
          go_wp2_with fail
          exact ⟨⟨i' + 1, m' + xc, by go_num, by go_num, by omega, by have := HM'.out; have := hst.out; omega, HB'.out.go hb1 (Nat.le_refl _)⟩, by simp [intOf]; omega⟩
        · have hfin : Hid (m' = (Va.mk hk hnn hs l ks f).cnt) := by
            have h1 := HM'.out; rw [List.take_of_length_le (by omega)] at h1
            have h2 := hrest.out
            have h3 := HC.out
            show m' = _
            omega
          clear HM' HC hrest
          go_wp2_with fail
          go_ret
          exact ⟨by rw [hfin.out]; rfl, HB'.out.1⟩
end Go.Proofs.Ytmdlcalnncncjaa

/- The reference's Same. -/
set_option linter.unusedVariables false
set_option linter.unusedSimpArgs false
namespace Go.Proofs.Ytmdlcalnncncjaa
open Go.RowKit
theorem below_drewN' {B : Nat} {a w : World} (h : Below B a w) (n : Nat) : Below B a (w.drewN n) := ⟨h.os, h.tape, h.output, h.size, h.block⟩
/-- Two lists are one as far as i. -/
def EqTo {α : Type} (l m : List α) (i : Nat) : Prop := l.take i = m.take i
theorem EqTo.step {α : Type} {l m : List α} {i : Nat} {x : α} (h : EqTo l m i) (hx : l[i]? = some x) (hy : m[i]? = some x) : EqTo l m (i + 1) := by
  unfold EqTo at *
  rw [take_next hx, take_next hy, h]
theorem EqTo.all {α : Type} {l m : List α} {i : Nat} (h : EqTo l m i) (h1 : l.length ≤ i) (h2 : m.length ≤ i) : l = m := by
  unfold EqTo at h
  rwa [List.take_of_length_le h1, List.take_of_length_le h2] at h
theorem ne_at {α : Type} {l m : List α} {i : Nat} {x y : α} (hx : l[i]? = some x) (hy : m[i]? = some y) (h : x ≠ y) : l ≠ m := by
  rintro rfl
  rw [hx] at hy
  exact h (Option.some.inj hy)
/-- What Same answers. -/
def SameR (a b : Va) (w : World) (e : Ending) (w' : World) : Prop := ∃ r : Bool, e = .returned (.bool r) ∧ (r = true ↔ a = b) ∧ Below w.heap.size w w'
set_option maxHeartbeats 400000 in
set_option maxRecDepth 100000 in
theorem same_ref : ∀ (a b : Va) (S S' : Nat → Prop) (h h' : Hd) (w : World), Lies w S a h → Lies w S' b h' → Calls Try.prog 24 #[h.val, h'.val] w fun e w' => SameR a b w e w' := by
  intro a
  induction a using Va.ind with
  | h k nn s l ks f ihl ihf =>
  intro b S S' h h' w H H'
  obtain ⟨k', nn', s', l', ks', f'⟩ := b
  have Hop := H.op
  have Hop' := H'.op
  simp only [Lies] at H H'
  obtain ⟨⟨e1, e2, e3, e4, e5, e6⟩, ⟨b1, b2, b3, b4, b5, b6, b7, b8⟩, -, -⟩ := H
  obtain ⟨⟨e1', e2', e3', e4', e5', e6'⟩, ⟨b1', b2', b3', b4', b5', b6', b7', b8'⟩, -, -⟩ := H'
  obtain ⟨hk, hnn, hs, A, la, lc, F, lf, fc⟩ := h
  obtain ⟨hk', hnn', hs', A', la', lc', F', lf', fc'⟩ := h'
  simp only at e1 e2 e3 e4 e5 b7 b8
  simp only at e1' e2' e3' e4' e5' b7' b8'
  subst e1 e2 e3 e1' e2' e3' e4 e5 e4' e5'
  unfold Hd.val
  simp only
  have hml : maxLen ≤ 9223372036854775807 := by decide
  have b5'' : l.length ≤ 9223372036854775807 := Nat.le_trans b5 hml
  have b6'' : f.length ≤ 9223372036854775807 := Nat.le_trans b6 hml
  clear hml
  have fin : ∀ wx, Below w.heap.size w wx → (Va.mk hk hnn hs l ks f ≠ Va.mk hk' hnn' hs' l' ks' f') → SameR (Va.mk hk hnn hs l ks f) (Va.mk hk' hnn' hs' l' ks' f') w (.returned (.bool false)) wx :=
    fun wx hb hne => ⟨false, rfl, ⟨fun h => absurd h (by decide), fun h => absurd h hne⟩, hb⟩
  have FIN := Lib.hid fin
  clear fin
  have hb0 : ∀ o1 o2, Below w.heap.size w ((w.alloc o1).alloc o2) := fun o1 o2 => ((Below.refl _ _).alloc (Nat.le_refl _) _).alloc (by simp) _
  have HB0 := Lib.hid hb0
  clear hb0
  have HE6 := Lib.hid e6
  have HE6' := Lib.hid e6'
  clear e6 e6'
  by_cases h1 : hk = hk'
  case neg =>
    go_enter Try.func24, Try.ntmps24
    go_wp2_with fail
    go_ret
    exact FIN.out _ (HB0.out _ _) (by intro e; injection e; contradiction)
  by_cases h2 : hnn = hnn'
  case neg =>
    go_enter Try.func24, Try.ntmps24
    go_wp2_with fail
    go_ret
    exact FIN.out _ (HB0.out _ _) (by intro e; injection e; contradiction)
  by_cases h3 : hs = hs'
  case neg =>
    have h3' := bytes_ne h3
    go_enter Try.func24, Try.ntmps24
    go_wp2_with fail
    go_ret
    exact FIN.out _ (HB0.out _ _) (by intro e; injection e; contradiction)
  by_cases h4 : l.length = l'.length
  case neg =>
    have h3' := bytes_eq h3
    go_enter Try.func24, Try.ntmps24
    go_wp2_with fail
    go_ret
    exact FIN.out _ (HB0.out _ _) (by intro e; injection e; subst_vars; contradiction)
  by_cases h5 : f.length = f'.length
  case neg =>
    have h3' := bytes_eq h3
    go_enter Try.func24, Try.ntmps24
    go_wp2_with fail
    go_ret
    exact FIN.out _ (HB0.out _ _) (by intro e; injection e; subst_vars; contradiction)
  subst h1 h2 h3
  rw [← h4, ← h5]
  have H4 := Lib.hid h4
  have H5 := Lib.hid h5
  rw [← h4] at b5' b7'
  rw [← h5] at b6' b8'
  clear h4 h5
  go_enter Try.func24, Try.ntmps24
  go_wp2_with fail
  go_loopw [5] (fun iv wr => ∃ (i : Nat), iv = .int .i64 i ∧ i ≤ l.length ∧ EqTo l l' i ∧ Below w.heap.size w wr ∧ Bx wr w.heap.size ⟨hk, hnn, hs, A, l.length, lc, F, f.length, fc⟩ ∧ Bx wr (w.heap.size + 1) ⟨hk, hnn, hs, A', l.length, lc', F', f.length, fc'⟩) (fun iv _ => l.length - (intOf iv).toNat)
  case atStart => exact ⟨0, rfl, Nat.zero_le _, by simp [EqTo], HB0.out _ _, (Bx.start w ⟨hk, hnn, hs, A, l.length, lc, F, f.length, fc⟩ 25).alloc _, Bx.start' _ ⟨hk, hnn, hs, A', l.length, lc', F', f.length, fc'⟩ 25 (by simp)⟩
  case round =>
    obtain ⟨i, rfl, hi, heq, hbel, hbx, hbx'⟩ := hrel
    have HQ := Lib.hid heq
    clear heq
    have cA := hbx.2 3 _ rfl
    have cA' := hbx'.2 3 _ rfl
    have cF := hbx.2 4 _ rfl
    have cF' := hbx'.2 4 _ rfl
    have HB := Lib.hid hbel
    have HX := Lib.hid hbx
    have HX' := Lib.hid hbx'
    clear hbx hbx' hbel
    by_cases hlt : i < l.length
    · have hlt' : i < l'.length := by have := H4.out; omega
      obtain ⟨ad, u, rfl, _, hbl, hLu, hcell⟩ := Hop.L i _ (List.getElem?_eq_getElem hlt)
      obtain ⟨k0, k1, k2, k3, k4⟩ := hcell.below HB.out hbl
      obtain ⟨ad', u', rfl, _, hbl', hLu', hcell'⟩ := Hop'.L i _ (List.getElem?_eq_getElem hlt')
      obtain ⟨q0, q1, q2, q3, q4⟩ := hcell'.below HB.out hbl'
      have hLv := Lib.hid (hLu.below HB.out (Nat.le_refl _))
      have hLv' := Lib.hid (hLu'.below HB.out (Nat.le_refl _))
      have ihx := Lib.hid (ihl l[i] (List.getElem_mem hlt) l'[i])
      have G1 := Lib.hid (List.getElem?_eq_getElem hlt)
      have G2 := Lib.hid (List.getElem?_eq_getElem hlt')
      clear hcell hLu hcell' hLu' ihl ihf
      go_wp2_with fail
      go_still_tail 10, (by kernel_rfl)
      change wpList _ _ _ _ _ wr.drew
      have hbd : Below wr.heap.size wr wr.drew := (Below.refl _ _).drew
      generalize wr.drew = w2 at hbd ⊢
      have HBD := Lib.hid hbd
      clear hbd
      go_wp2_with fail
      refine (ihx.out S S' u u' _ (hLv.out.below HBD.out (Nat.le_refl _)) (hLv'.out.below HBD.out (Nat.le_refl _))).mono ?_
      rintro e w3 ⟨r, rfl, hr, hb1⟩
      have hb3 : Below wr.heap.size wr w3 := HBD.out.trans (hb1.mono HBD.out.size)
      have HB3 := Lib.hid hb3
      have HR := Lib.hid hr
      have hsz := HX'.out.1
      clear hb3 hb1 hr
      cases r
      · go_wp2_with fail
        go_ret
        refine FIN.out _ (HB.out.trans (HB3.out.mono HB.out.size)) ?_
        intro e
        injection e with _ _ _ e4
        exact ne_at G1.out G2.out (fun h => by have := HR.out.2 h; cases this) e4
      · have hee : l[i] = l'[i] := HR.out.1 rfl
        have HQ2 := Lib.hid (HQ.out.step G1.out (hee ▸ G2.out))
        clear hee
        go_wp2_with fail
        refine ⟨⟨i + 1, by go_num, by omega, HQ2.out, HB.out.trans (HB3.out.mono HB.out.size), HX.out.go HB3.out (by omega), HX'.out.go HB3.out (by omega)⟩, by simp [intOf]; omega⟩
    · have hll : l = l' := HQ.out.all (by omega) (by have := H4.out; omega)
      have HLL := Lib.hid hll
      clear hll HQ ihl
      go_wp2_with fail
      go_loopw [6] (fun iv wr => ∃ (i : Nat), iv = .int .i64 i ∧ i ≤ f.length ∧ EqTo ks ks' i ∧ EqTo f f' i ∧ Below w.heap.size w wr ∧ Bx wr w.heap.size ⟨hk, hnn, hs, A, l.length, lc, F, f.length, fc⟩ ∧ Bx wr (w.heap.size + 1) ⟨hk, hnn, hs, A', l.length, lc', F', f.length, fc'⟩) (fun iv _ => f.length - (intOf iv).toNat)
      case atStart => exact ⟨0, rfl, Nat.zero_le _, by simp [EqTo], by simp [EqTo], HB.out, HX.out, HX'.out⟩
      case round =>
        clear HB HX HX'
        obtain ⟨i', rfl, hi', heqk, heq, hbel, hbx, hbx'⟩ := hrel
        have HQ := Lib.hid heq
        have HQK := Lib.hid heqk
        clear heq heqk
        have cF := hbx.2 4 _ rfl
        have cF' := hbx'.2 4 _ rfl
        have HB := Lib.hid hbel
        have HX := Lib.hid hbx
        have HX' := Lib.hid hbx'
        clear hbx hbx' hbel
        by_cases hlt : i' < f.length
        · have hlt' : i' < f'.length := by have := H5.out; omega
          obtain ⟨ad, u, key, rfl, _, hbl, hkey, _, hLu, hcell⟩ := Hop.K i' _ (List.getElem?_eq_getElem hlt)
          obtain ⟨k0, k1, k2, k3, k4, k5⟩ := hcell.below HB.out hbl
          obtain ⟨ad', u', key', rfl, _, hbl', hkey', _, hLu', hcell'⟩ := Hop'.K i' _ (List.getElem?_eq_getElem hlt')
          obtain ⟨q0, q1, q2, q3, q4, q5⟩ := hcell'.below HB.out hbl'
          have hLv := Lib.hid (hLu.below HB.out (Nat.le_refl _))
          have hLv' := Lib.hid (hLu'.below HB.out (Nat.le_refl _))
          have ihx := Lib.hid (ihf f[i'] (List.getElem_mem hlt) f'[i'])
          have G1 := Lib.hid (List.getElem?_eq_getElem hlt)
          have G2 := Lib.hid (List.getElem?_eq_getElem hlt')
          have GK := Lib.hid hkey
          have GK' := Lib.hid hkey'
          clear hcell hLu hcell' hLu' ihf hkey hkey'
          by_cases hkk : key = key'
          · have hkk' := bytes_eq hkk
            have HKK := Lib.hid hkk
            clear hkk
            go_wp2_with fail
            go_still_tail 26, (by kernel_rfl)
            change wpList _ _ _ _ _ wr.drew
            have hbd : Below wr.heap.size wr wr.drew := (Below.refl _ _).drew
            generalize wr.drew = w2 at hbd ⊢
            have HBD := Lib.hid hbd
            clear hbd
            go_wp2_with fail
            refine (ihx.out S S' u u' _ (hLv.out.below HBD.out (Nat.le_refl _)) (hLv'.out.below HBD.out (Nat.le_refl _))).mono ?_
            rintro e w3 ⟨r, rfl, hr, hb1⟩
            have hb3 : Below wr.heap.size wr w3 := HBD.out.trans (hb1.mono HBD.out.size)
            have HB3 := Lib.hid hb3
            have HR := Lib.hid hr
            have hsz := HX'.out.1
            clear hb3 hb1 hr
            cases r
            · go_wp2_with fail
              go_ret
              refine FIN.out _ (HB.out.trans (HB3.out.mono HB.out.size)) ?_
              intro e
              injection e with _ _ _ _ _ e6
              exact ne_at G1.out G2.out (fun h => by have := HR.out.2 h; cases this) e6
            · have hee : f[i'] = f'[i'] := HR.out.1 rfl
              have HQ2 := Lib.hid (HQ.out.step G1.out (hee ▸ G2.out))
              have HQK2 := Lib.hid (HQK.out.step GK.out (HKK.out ▸ GK'.out))
              clear hee
              go_wp2_with fail
              refine ⟨⟨i' + 1, by go_num, by omega, HQK2.out, HQ2.out, HB.out.trans (HB3.out.mono HB.out.size), HX.out.go HB3.out (by omega), HX'.out.go HB3.out (by omega)⟩, by simp [intOf]; omega⟩
          · have hkk' := bytes_ne hkk
            have hkk2 : (!(key.toList == key'.toList)) = true := by rw [hkk']; rfl
            have HNE := Lib.hid hkk
            clear hkk
            go_wp2_with fail
            go_quiet (fail)
            go_wp2_with fail
            go_ret
            refine FIN.out _ (below_drewN' HB.out _) ?_
            intro e
            injection e with _ _ _ _ e5 _
            exact ne_at GK.out GK'.out HNE.out e5
        · have hff : f = f' := HQ.out.all (by omega) (by have := H5.out; omega)
          have hkk : ks = ks' := HQK.out.all (by have := HE6.out; omega) (by have := HE6'.out; have := H5.out; omega)
          have HFF := Lib.hid hff
          have HKK := Lib.hid hkk
          clear hff hkk
          go_wp2_with fail
          go_ret
          exact ⟨true, rfl, ⟨fun _ => by rw [HLL.out, HFF.out, HKK.out], fun _ => rfl⟩, HB.out⟩
end Go.Proofs.Ytmdlcalnncncjaa

/- Plain facts on lines: no program in it. -/
set_option linter.unusedVariables false
set_option linter.unusedSimpArgs false
namespace Go.Proofs.Ytmdlcalnncncjaa
/-- What stands between line ends from i on, the line having begun at f. -/
def linesT (s : ByteArray) : Nat → Nat → Nat → List ByteArray
  | 0, f, _ => [s.extract f s.size]
  | n + 1, f, i =>
    if (s.get! i).toNat = 13 ∨ ((s.get! i).toNat = 10 ∧ (i = 0 ∨ (s.get! (i - 1)).toNat ≠ 13)) then s.extract f i :: linesT s n (i + 1) (i + 1)
    else if (s.get! i).toNat = 10 then linesT s n (i + 1) (i + 1)
    else linesT s n f (i + 1)
def linesFrom (s : ByteArray) (f i : Nat) : List ByteArray := linesT s (s.size - i) f i
theorem lf_end (s : ByteArray) (f i : Nat) (h : ¬ i < s.size) : linesFrom s f i = [s.extract f s.size] := by
  unfold linesFrom; rw [show s.size - i = 0 by omega]; rfl
theorem lf_cut (s : ByteArray) (f i : Nat) (h : i < s.size) (hc : (s.get! i).toNat = 13 ∨ ((s.get! i).toNat = 10 ∧ (i = 0 ∨ (s.get! (i - 1)).toNat ≠ 13))) :
    linesFrom s f i = s.extract f i :: linesFrom s (i + 1) (i + 1) := by
  unfold linesFrom; rw [show s.size - i = (s.size - (i + 1)) + 1 by omega]; rw [linesT, if_pos hc]
theorem lf_skip (s : ByteArray) (f i : Nat) (h : i < s.size) (hc : (s.get! i).toNat = 10) (h0 : i ≠ 0) (hp : (s.get! (i - 1)).toNat = 13) :
    linesFrom s f i = linesFrom s (i + 1) (i + 1) := by
  unfold linesFrom; rw [show s.size - i = (s.size - (i + 1)) + 1 by omega]; rw [linesT, if_neg (by omega), if_pos hc]
theorem lf_one (s : ByteArray) (f i : Nat) (h : i < s.size) (h1 : (s.get! i).toNat ≠ 13) (h2 : (s.get! i).toNat ≠ 10) : linesFrom s f i = linesFrom s f (i + 1) := by
  unfold linesFrom; rw [show s.size - i = (s.size - (i + 1)) + 1 by omega]; rw [linesT, if_neg (by omega), if_neg h2]
theorem lf_high (s : ByteArray) (f : Nat) : ∀ (k i : Nat), i + k ≤ s.size → (∀ j, j < k → 128 ≤ (s.get! (i + j)).toNat) → linesFrom s f i = linesFrom s f (i + k)
  | 0, i, _, _ => rfl
  | k + 1, i, hk, hb => by
    have h0 := hb 0 (by omega)
    rw [Nat.add_zero] at h0
    rw [lf_one s f i (by omega) (by omega) (by omega), lf_high s f k (i + 1) (by omega) (fun j hj => by have := hb (j + 1) (by omega); rwa [show i + 1 + j = i + (j + 1) by omega]), show i + 1 + k = i + (k + 1) by omega]
set_option maxRecDepth 100000 in
set_option maxHeartbeats 2000000 in
theorem dec_width (n b0 b1 b2 b3 : Nat) (hn : 1 ≤ n) (h0 : b0 < 256) (h1 : b1 < 256) (h2 : b2 < 256) (h3 : b3 < 256) :
    1 ≤ (Lib.decodeN n b0 b1 b2 b3).2 ∧ (Lib.decodeN n b0 b1 b2 b3).2 ≤ n ∧ (Lib.decodeN n b0 b1 b2 b3).2 ≤ 4 ∧ (1 < (Lib.decodeN n b0 b1 b2 b3).2 → 128 ≤ b1) ∧ (2 < (Lib.decodeN n b0 b1 b2 b3).2 → 128 ≤ b2) ∧ (3 < (Lib.decodeN n b0 b1 b2 b3).2 → 128 ≤ b3) := by
  unfold Lib.decodeN
  repeat' split
  all_goals (simp only; omega)
theorem dec_in (s : ByteArray) (i : Nat) (h : i < s.size) : 1 ≤ (Utf8.decode s i).2 ∧ i + (Utf8.decode s i).2 ≤ s.size ∧ (128 ≤ (s.get! i).toNat → ∀ j, j < (Utf8.decode s i).2 → 128 ≤ (s.get! (i + j)).toNat) := by
  have hd := dec_width (s.size - i) _ _ _ _ (by omega) (get_lt s i) (get_lt s (i + 1)) (get_lt s (i + 2)) (get_lt s (i + 3))
  rw [← Lib.decode_at] at hd
  refine ⟨hd.1, by omega, fun hh j hj => ?_⟩
  match j, hj with
  | 0, _ => simpa using hh
  | 1, hj => exact hd.2.2.2.1 (by omega)
  | 2, hj => exact hd.2.2.2.2.1 (by omega)
  | 3, hj => exact hd.2.2.2.2.2 (by omega)
  | j + 4, hj => omega
/-- A rune below 128 is its byte, one wide. -/
theorem dec_small (s : ByteArray) (i : Nat) (h : i < s.size) (hc : (Utf8.decode s i).1 < 128) : (s.get! i).toNat = (Utf8.decode s i).1 ∧ (Utf8.decode s i).2 = 1 := by
  rw [get_bang s i h]
  by_cases ha : (s[i]'h).toNat < 128
  · rw [decode_ascii s i h ha]; exact ⟨rfl, rfl⟩
  · have := decode_high s i h (by omega); omega
/-- What is no line end is passed over, however wide. -/
theorem lf_rune (s : ByteArray) (f i : Nat) (h : i < s.size) (h1 : (Utf8.decode s i).1 ≠ 13) (h2 : (Utf8.decode s i).1 ≠ 10) : linesFrom s f i = linesFrom s f (i + (Utf8.decode s i).2) := by
  by_cases ha : (s[i]'h).toNat < 128
  · rw [decode_ascii s i h ha] at h1 h2 ⊢
    have e := get_bang s i h
    exact lf_one s f i h (by rw [e]; exact h1) (by rw [e]; exact h2)
  · have e := get_bang s i h
    have hd := dec_in s i h
    exact lf_high s f _ i hd.2.1 (hd.2.2 (by rw [e]; omega))
end Go.Proofs.Ytmdlcalnncncjaa

/- Plain facts on the document's own way of reading a rune: no program in it. -/
set_option linter.unusedVariables false
set_option linter.unusedSimpArgs false
namespace Go.Proofs.Ytmdlcalnncncjaa
/-- The number that the lead byte's bits and the k - 1 next bytes come to. -/
def vf (s : ByteArray) (i v0 : Nat) : Nat → Nat
  | 0 => v0
  | k + 1 => if k = 0 then v0 else vf s i v0 k * 64 + ((s.get! (i + k)).toNat - 128)
theorem vf_one (s : ByteArray) (i v0 : Nat) : vf s i v0 1 = v0 := rfl
theorem vf_next (s : ByteArray) (i v0 k : Nat) (hk : 1 ≤ k) : vf s i v0 (k + 1) = vf s i v0 k * 64 + ((s.get! (i + k)).toNat - 128) := by
  rw [vf, if_neg (by omega)]
def Conts (s : ByteArray) (i k : Nat) : Prop := ∀ j, 1 ≤ j → j < k → 128 ≤ (s.get! (i + j)).toNat ∧ (s.get! (i + j)).toNat < 192
theorem vf_small (s : ByteArray) (i v0 : Nat) (h0 : v0 ≤ 31) : ∀ k, Conts s i k → k ≤ 4 → vf s i v0 k ≤ 8388607 ∧ (k ≤ 3 → vf s i v0 k ≤ 131071) := by
  intro k hc hk
  match k, hk with
  | 0, _ => simp [vf]; omega
  | 1, _ => simp [vf]; omega
  | 2, _ => have := hc 1 (by omega) (by omega); simp [vf]; omega
  | 3, _ => have := hc 1 (by omega) (by omega); have := hc 2 (by omega) (by omega); simp [vf]; omega
  | 4, _ => have := hc 1 (by omega) (by omega); have := hc 2 (by omega) (by omega); have := hc 3 (by omega) (by omega); simp [vf]; omega
/-- A lead byte b of the class (m, off, least). -/
def Cls (b m off least : Nat) : Prop := (m = 2 ∧ off = 192 ∧ least = 128 ∧ 194 ≤ b ∧ b < 224) ∨ (m = 3 ∧ off = 224 ∧ least = 2048 ∧ 224 ≤ b ∧ b < 240) ∨ (m = 4 ∧ off = 240 ∧ least = 65536 ∧ 240 ≤ b ∧ b < 245)
def fits (least V : Nat) : Prop := least ≤ V ∧ V ≤ 1114111 ∧ ¬ (55296 ≤ V ∧ V < 57344)
theorem bad_iff (s : ByteArray) (i : Nat) : badAt s i = true ↔ Utf8.decode s i = (65533, 1) := by
  unfold badAt; simp [Prod.ext_iff]
set_option maxRecDepth 100000 in
set_option maxHeartbeats 4000000 in
theorem decN_none (n b0 b1 b2 b3 : Nat) (hn : 1 ≤ n) (h0 : b0 < 256) (h1 : b1 < 256) (h2 : b2 < 256) (h3 : b3 < 256) (hb : 128 ≤ b0 ∧ b0 < 194 ∨ 245 ≤ b0) : Lib.decodeN n b0 b1 b2 b3 = (65533, 1) := by
  unfold Lib.decodeN
  repeat' split
  all_goals first | rfl | (exfalso; omega)
set_option maxRecDepth 100000 in
set_option maxHeartbeats 4000000 in
theorem decN_two (n b0 b1 b2 b3 : Nat) (h0 : b0 < 256) (h1 : b1 < 256) (h2 : b2 < 256) (h3 : b3 < 256) (hb : 194 ≤ b0 ∧ b0 < 224) :
    Lib.decodeN n b0 b1 b2 b3 = if 2 ≤ n ∧ 128 ≤ b1 ∧ b1 < 192 then ((b0 - 192) * 64 + (b1 - 128), 2) else (65533, 1) := by
  unfold Lib.decodeN
  repeat' split
  all_goals first | rfl | (exfalso; omega) | (apply Prod.ext <;> simp only <;> omega)
set_option maxRecDepth 100000 in
set_option maxHeartbeats 4000000 in
theorem decN_three (n b0 b1 b2 b3 : Nat) (h0 : b0 < 256) (h1 : b1 < 256) (h2 : b2 < 256) (h3 : b3 < 256) (hb : 224 ≤ b0 ∧ b0 < 240) :
    Lib.decodeN n b0 b1 b2 b3 = if 3 ≤ n ∧ (128 ≤ b1 ∧ b1 < 192) ∧ (128 ≤ b2 ∧ b2 < 192) ∧ (2048 ≤ ((b0 - 224) * 64 + (b1 - 128)) * 64 + (b2 - 128) ∧ ¬ (55296 ≤ ((b0 - 224) * 64 + (b1 - 128)) * 64 + (b2 - 128) ∧ ((b0 - 224) * 64 + (b1 - 128)) * 64 + (b2 - 128) < 57344)) then (((b0 - 224) * 64 + (b1 - 128)) * 64 + (b2 - 128), 3) else (65533, 1) := by
  unfold Lib.decodeN
  repeat' split
  all_goals first | rfl | (exfalso; omega) | (apply Prod.ext <;> simp only <;> omega)
set_option maxRecDepth 100000 in
set_option maxHeartbeats 4000000 in
theorem decN_four (n b0 b1 b2 b3 : Nat) (h0 : b0 < 256) (h1 : b1 < 256) (h2 : b2 < 256) (h3 : b3 < 256) (hb : 240 ≤ b0 ∧ b0 < 245) :
    Lib.decodeN n b0 b1 b2 b3 = if 4 ≤ n ∧ (128 ≤ b1 ∧ b1 < 192) ∧ (128 ≤ b2 ∧ b2 < 192) ∧ (128 ≤ b3 ∧ b3 < 192) ∧ (65536 ≤ (((b0 - 240) * 64 + (b1 - 128)) * 64 + (b2 - 128)) * 64 + (b3 - 128) ∧ (((b0 - 240) * 64 + (b1 - 128)) * 64 + (b2 - 128)) * 64 + (b3 - 128) ≤ 1114111) then ((((b0 - 240) * 64 + (b1 - 128)) * 64 + (b2 - 128)) * 64 + (b3 - 128), 4) else (65533, 1) := by
  unfold Lib.decodeN
  repeat' split
  all_goals first | rfl | (exfalso; omega) | (apply Prod.ext <;> simp only <;> omega)
/-- What the document's reading comes to, whole. -/
theorem size_yes (s : ByteArray) (i m off least : Nat) (hb : Cls (s.get! i).toNat m off least) (hm : i + m ≤ s.size) (hc : Conts s i m) (hf : fits least (vf s i ((s.get! i).toNat - off) m)) :
    Utf8.decode s i = (vf s i ((s.get! i).toNat - off) m, m) ∧ badAt s i = false := by
  have key : Utf8.decode s i = (vf s i ((s.get! i).toNat - off) m, m) := by
    rw [Lib.decode_at]
    have g0 := get_lt s i; have g1 := get_lt s (i + 1); have g2 := get_lt s (i + 2); have g3 := get_lt s (i + 3)
    rcases hb with ⟨rfl, rfl, rfl, a, b⟩ | ⟨rfl, rfl, rfl, a, b⟩ | ⟨rfl, rfl, rfl, a, b⟩
    · have c1 := hc 1 (by omega) (by omega)
      rw [decN_two _ _ _ _ _ g0 g1 g2 g3 ⟨a, b⟩, if_pos ⟨by omega, c1⟩]; rfl
    · have c1 := hc 1 (by omega) (by omega); have c2 := hc 2 (by omega) (by omega)
      rw [decN_three _ _ _ _ _ g0 g1 g2 g3 ⟨a, b⟩, if_pos ⟨by omega, c1, c2, hf.1, hf.2.2⟩]; rfl
    · have c1 := hc 1 (by omega) (by omega); have c2 := hc 2 (by omega) (by omega); have c3 := hc 3 (by omega) (by omega)
      rw [decN_four _ _ _ _ _ g0 g1 g2 g3 ⟨a, b⟩, if_pos ⟨by omega, c1, c2, c3, hf.1, hf.2.1⟩]; rfl
  refine ⟨key, ?_⟩
  rw [Bool.eq_false_iff, ne_eq, bad_iff, key]
  intro e
  have := (Prod.ext_iff.1 e).2
  rcases hb with ⟨rfl, _⟩ | ⟨rfl, _⟩ | ⟨rfl, _⟩ <;> simp at this
theorem size_no (s : ByteArray) (i m off least : Nat) (hb : Cls (s.get! i).toNat m off least) (h : ¬ (i + m ≤ s.size ∧ Conts s i m ∧ fits least (vf s i ((s.get! i).toNat - off) m))) : badAt s i = true := by
  rw [bad_iff, Lib.decode_at]
  have g0 := get_lt s i; have g1 := get_lt s (i + 1); have g2 := get_lt s (i + 2); have g3 := get_lt s (i + 3)
  rcases hb with ⟨rfl, rfl, rfl, a, b⟩ | ⟨rfl, rfl, rfl, a, b⟩ | ⟨rfl, rfl, rfl, a, b⟩
  · rw [decN_two _ _ _ _ _ g0 g1 g2 g3 ⟨a, b⟩, if_neg]
    rintro ⟨r, c1⟩
    refine h ⟨by omega, fun j h1 h2 => ?_, ?_⟩
    · obtain rfl : j = 1 := by omega
      exact c1
    · have e : vf s i ((s.get! i).toNat - 192) 2 = ((s.get! i).toNat - 192) * 64 + ((s.get! (i + 1)).toNat - 128) := rfl
      unfold fits; rw [e]; omega
  · rw [decN_three _ _ _ _ _ g0 g1 g2 g3 ⟨a, b⟩, if_neg]
    rintro ⟨r, c1, c2, f1, f2⟩
    refine h ⟨by omega, fun j h1 h2 => ?_, f1, ?_, f2⟩
    · obtain rfl | rfl : j = 1 ∨ j = 2 := by omega
      · exact c1
      · exact c2
    · simp [vf]; omega
  · rw [decN_four _ _ _ _ _ g0 g1 g2 g3 ⟨a, b⟩, if_neg]
    rintro ⟨r, c1, c2, c3, f1, f2⟩
    refine h ⟨by omega, fun j h1 h2 => ?_, f1, f2, ?_⟩
    · obtain rfl | rfl | rfl : j = 1 ∨ j = 2 ∨ j = 3 := by omega
      · exact c1
      · exact c2
      · exact c3
    · intro hx
      have f1' : 65536 ≤ vf s i ((s.get! i).toNat - 240) 4 := f1
      omega
theorem size_none (s : ByteArray) (i : Nat) (h : i < s.size) (hb : 128 ≤ (s.get! i).toNat ∧ (s.get! i).toNat < 194 ∨ 245 ≤ (s.get! i).toNat) : badAt s i = true := by
  rw [bad_iff, Lib.decode_at]
  exact decN_none _ _ _ _ _ (by omega) (get_lt s i) (get_lt s _) (get_lt s _) (get_lt s _) hb
theorem size_one (s : ByteArray) (i : Nat) (h : i < s.size) (hb : (s.get! i).toNat < 128) : Utf8.decode s i = ((s.get! i).toNat, 1) ∧ badAt s i = false := by
  have e := get_bang s i h
  have hd : Utf8.decode s i = ((s.get! i).toNat, 1) := by rw [decode_ascii s i h (by rw [← e]; exact hb), e]
  refine ⟨hd, ?_⟩
  rw [Bool.eq_false_iff, ne_eq, bad_iff, hd]
  intro e
  have := (Prod.ext_iff.1 e).1
  simp at this; omega
end Go.Proofs.Ytmdlcalnncncjaa

set_option linter.unusedVariables false
set_option linter.unusedSimpArgs false
namespace Go.Proofs.Ytmdlcalnncncjaa
open Go.RowKit
/-- What Size tells at i. -/
def sizeR (s : ByteArray) (i : Nat) : Nat × Nat := if badAt s i then (0, 0) else ((Utf8.decode s i).2, (Utf8.decode s i).1)
def sizeE (s : ByteArray) (i : Nat) : Ending := .returned (.tuple #[.int .i64 (sizeR s i).1, .int .i32 (sizeR s i).2])
theorem sizeE_bad (s : ByteArray) (i : Nat) (h : badAt s i = true) : sizeE s i = .returned (.tuple #[.int .i64 0, .int .i32 0]) := by unfold sizeE sizeR; rw [h]; rfl
theorem sizeE_ok (s : ByteArray) (i V m : Nat) (h : Utf8.decode s i = (V, m) ∧ badAt s i = false) : sizeE s i = .returned (.tuple #[.int .i64 m, .int .i32 V]) := by unfold sizeE sizeR; rw [h.2, h.1]; rfl
theorem val_int {k : IntKind} {a b : Int} (h : a = b) : Value.int k a = .int k b := by rw [h]
theorem conts_next {s : ByteArray} {i k : Nat} (h : Conts s i k) (h1 : 128 ≤ (s.get! (i + k)).toNat) (h2 : (s.get! (i + k)).toNat < 192) : Conts s i (k + 1) := by
  intro j a b
  by_cases e : j = k
  · subst e; exact ⟨h1, h2⟩
  · exact h j a (by omega)
set_option maxHeartbeats 1000000 in
set_option maxRecDepth 100000 in
theorem size_2 (s : ByteArray) (hs : s.size ≤ 4294967296) (i : Nat) (hi : i < s.size) (b : Nat) (hg : b = s[i].toNat) (hb1 : 194 ≤ b) (hb2 : b < 224) (w : World) : Calls Try.prog 107 #[.string s, .int .i64 i] w fun e w' => e = sizeE s i ∧ w = w' := by
  have hgb : (s.get! i).toNat = b := by rw [get_bang s i hi, hg]
  have hcl : Cls (s.get! i).toNat 2 192 128 := by rw [hgb]; unfold Cls; omega
  have HCL := Lib.hid hcl
  have HGB := Lib.hid hgb
  clear hcl hgb
  have hsb : s[i].toNat = b := hg.symm
  clear hg
  by_cases hm : i + 2 ≤ s.size
  · go_enter Try.func107, Try.ntmps107
    go_wp2
    go_loop [8, 10] (fun v j => ∃ k : Nat, 1 ≤ k ∧ k ≤ 2 ∧ j = .int .i64 k ∧ v = .int .i64 (vf s i (b - 192) k : Nat) ∧ Conts s i k) (fun _ j => 2 - (intOf j).toNat)
    case atStart => exact ⟨1, by omega, by omega, rfl, val_int (by rw [vf_one]; omega), fun j h1 h2 => by omega⟩
    case round =>
      obtain ⟨k, hk1, hk2, rfl, rfl, hc⟩ := hrel
      have HC := Lib.hid hc
      clear hc
      have hv := vf_small s i (b - 192) (by omega) k HC.out (by omega)
      by_cases hlt : k < 2
      · have hv3 := hv.2 (by omega)
        have hin : i + k < s.size := by omega
        have hgk : (s.get! (i + k)).toNat = s[i + k].toNat := get_bang s (i + k) hin ▸ rfl
        have HN := Lib.hid (vf_next s i (b - 192) k hk1)
        generalize hV : vf s i (b - 192) k = V at *
        have HV := Lib.hid hV
        have HGK := Lib.hid hgk
        clear hV hv hgk
        by_cases hd : 128 ≤ s[i + k].toNat ∧ s[i + k].toNat < 192
        · obtain ⟨hd1, hd2⟩ := hd
          go_wp2
          exact ⟨⟨k + 1, by omega, by omega, by go_num, val_int (by rw [HN.out, HGK.out]; omega), conts_next HC.out (by rw [HGK.out]; exact hd1) (by rw [HGK.out]; exact hd2)⟩, by simp [intOf]; omega⟩
        · have HB := Lib.hid (size_no s i 2 192 128 HCL.out (fun h => hd (by have := h.2.1 k hk1 hlt; rw [HGK.out] at this; exact this)))
          by_cases hd1 : 128 ≤ s[i + k].toNat
          · have hd2 : 192 ≤ s[i + k].toNat := by omega
            have hd3 : s[i + k].toNat < 256 := s[i + k].toNat_lt
            clear hd
            go_wp2
            go_ret2
            exact ⟨(sizeE_bad s i HB.out).symm, rfl⟩
          · clear hd
            go_wp2
            go_ret2
            exact ⟨(sizeE_bad s i HB.out).symm, rfl⟩
      · obtain rfl : k = 2 := by omega
        have hv4 := hv.1
        have hno : ¬ fits 128 (vf s i (b - 192) 2) → badAt s i = true := fun h => size_no s i 2 192 128 HCL.out (fun x => h (by have := x.2.2; rw [HGB.out] at this; exact this))
        have hyes : fits 128 (vf s i (b - 192) 2) → Utf8.decode s i = (vf s i (b - 192) 2, 2) ∧ badAt s i = false := fun h => by have := size_yes s i 2 192 128 HCL.out hm HC.out (by rw [HGB.out]; exact h); rw [HGB.out] at this; exact this
        generalize vf s i (b - 192) 2 = V at *
        have HNO := Lib.hid hno
        have HYES := Lib.hid hyes
        clear hv hno hyes
        by_cases f1 : V < 128
        · go_wp2
          go_ret2
          exact ⟨(sizeE_bad s i (HNO.out (fun h => by unfold fits at h; omega))).symm, rfl⟩
        · by_cases f2 : 1114111 < V
          · go_wp2
            go_ret2
            exact ⟨(sizeE_bad s i (HNO.out (fun h => by unfold fits at h; omega))).symm, rfl⟩
          · by_cases f3 : 55296 ≤ V
            · by_cases f4 : V < 57344
              · go_wp2
                go_ret2
                exact ⟨(sizeE_bad s i (HNO.out (fun h => by unfold fits at h; omega))).symm, rfl⟩
              · go_wp2
                go_ret2
                exact ⟨(sizeE_ok s i V 2 (HYES.out (by unfold fits; omega))).symm, rfl⟩
            · go_wp2
              go_ret2
              exact ⟨(sizeE_ok s i V 2 (HYES.out (by unfold fits; omega))).symm, rfl⟩
  · have HB := Lib.hid (size_no s i 2 192 128 HCL.out (fun h => hm h.1))
    go_enter Try.func107, Try.ntmps107
    go_wp2
    go_ret2
    exact ⟨(sizeE_bad s i HB.out).symm, rfl⟩
set_option maxHeartbeats 1000000 in
set_option maxRecDepth 100000 in
theorem size_3 (s : ByteArray) (hs : s.size ≤ 4294967296) (i : Nat) (hi : i < s.size) (b : Nat) (hg : b = s[i].toNat) (hb1 : 224 ≤ b) (hb2 : b < 240) (w : World) : Calls Try.prog 107 #[.string s, .int .i64 i] w fun e w' => e = sizeE s i ∧ w = w' := by
  have hgb : (s.get! i).toNat = b := by rw [get_bang s i hi, hg]
  have hcl : Cls (s.get! i).toNat 3 224 2048 := by rw [hgb]; unfold Cls; omega
  have HCL := Lib.hid hcl
  have HGB := Lib.hid hgb
  clear hcl hgb
  have hsb : s[i].toNat = b := hg.symm
  clear hg
  by_cases hm : i + 3 ≤ s.size
  · go_enter Try.func107, Try.ntmps107
    go_wp2
    go_loop [8, 10] (fun v j => ∃ k : Nat, 1 ≤ k ∧ k ≤ 3 ∧ j = .int .i64 k ∧ v = .int .i64 (vf s i (b - 224) k : Nat) ∧ Conts s i k) (fun _ j => 3 - (intOf j).toNat)
    case atStart => exact ⟨1, by omega, by omega, rfl, val_int (by rw [vf_one]; omega), fun j h1 h2 => by omega⟩
    case round =>
      obtain ⟨k, hk1, hk2, rfl, rfl, hc⟩ := hrel
      have HC := Lib.hid hc
      clear hc
      have hv := vf_small s i (b - 224) (by omega) k HC.out (by omega)
      by_cases hlt : k < 3
      · have hv3 := hv.2 (by omega)
        have hin : i + k < s.size := by omega
        have hgk : (s.get! (i + k)).toNat = s[i + k].toNat := get_bang s (i + k) hin ▸ rfl
        have HN := Lib.hid (vf_next s i (b - 224) k hk1)
        generalize hV : vf s i (b - 224) k = V at *
        have HV := Lib.hid hV
        have HGK := Lib.hid hgk
        clear hV hv hgk
        by_cases hd : 128 ≤ s[i + k].toNat ∧ s[i + k].toNat < 192
        · obtain ⟨hd1, hd2⟩ := hd
          go_wp2
          exact ⟨⟨k + 1, by omega, by omega, by go_num, val_int (by rw [HN.out, HGK.out]; omega), conts_next HC.out (by rw [HGK.out]; exact hd1) (by rw [HGK.out]; exact hd2)⟩, by simp [intOf]; omega⟩
        · have HB := Lib.hid (size_no s i 3 224 2048 HCL.out (fun h => hd (by have := h.2.1 k hk1 hlt; rw [HGK.out] at this; exact this)))
          by_cases hd1 : 128 ≤ s[i + k].toNat
          · have hd2 : 192 ≤ s[i + k].toNat := by omega
            have hd3 : s[i + k].toNat < 256 := s[i + k].toNat_lt
            clear hd
            go_wp2
            go_ret2
            exact ⟨(sizeE_bad s i HB.out).symm, rfl⟩
          · clear hd
            go_wp2
            go_ret2
            exact ⟨(sizeE_bad s i HB.out).symm, rfl⟩
      · obtain rfl : k = 3 := by omega
        have hv4 := hv.1
        have hno : ¬ fits 2048 (vf s i (b - 224) 3) → badAt s i = true := fun h => size_no s i 3 224 2048 HCL.out (fun x => h (by have := x.2.2; rw [HGB.out] at this; exact this))
        have hyes : fits 2048 (vf s i (b - 224) 3) → Utf8.decode s i = (vf s i (b - 224) 3, 3) ∧ badAt s i = false := fun h => by have := size_yes s i 3 224 2048 HCL.out hm HC.out (by rw [HGB.out]; exact h); rw [HGB.out] at this; exact this
        generalize vf s i (b - 224) 3 = V at *
        have HNO := Lib.hid hno
        have HYES := Lib.hid hyes
        clear hv hno hyes
        by_cases f1 : V < 2048
        · go_wp2
          go_ret2
          exact ⟨(sizeE_bad s i (HNO.out (fun h => by unfold fits at h; omega))).symm, rfl⟩
        · by_cases f2 : 1114111 < V
          · go_wp2
            go_ret2
            exact ⟨(sizeE_bad s i (HNO.out (fun h => by unfold fits at h; omega))).symm, rfl⟩
          · by_cases f3 : 55296 ≤ V
            · by_cases f4 : V < 57344
              · go_wp2
                go_ret2
                exact ⟨(sizeE_bad s i (HNO.out (fun h => by unfold fits at h; omega))).symm, rfl⟩
              · go_wp2
                go_ret2
                exact ⟨(sizeE_ok s i V 3 (HYES.out (by unfold fits; omega))).symm, rfl⟩
            · go_wp2
              go_ret2
              exact ⟨(sizeE_ok s i V 3 (HYES.out (by unfold fits; omega))).symm, rfl⟩
  · have HB := Lib.hid (size_no s i 3 224 2048 HCL.out (fun h => hm h.1))
    go_enter Try.func107, Try.ntmps107
    go_wp2
    go_ret2
    exact ⟨(sizeE_bad s i HB.out).symm, rfl⟩
set_option maxHeartbeats 1000000 in
set_option maxRecDepth 100000 in
theorem size_4 (s : ByteArray) (hs : s.size ≤ 4294967296) (i : Nat) (hi : i < s.size) (b : Nat) (hg : b = s[i].toNat) (hb1 : 240 ≤ b) (hb2 : b < 245) (w : World) : Calls Try.prog 107 #[.string s, .int .i64 i] w fun e w' => e = sizeE s i ∧ w = w' := by
  have hgb : (s.get! i).toNat = b := by rw [get_bang s i hi, hg]
  have hcl : Cls (s.get! i).toNat 4 240 65536 := by rw [hgb]; unfold Cls; omega
  have HCL := Lib.hid hcl
  have HGB := Lib.hid hgb
  clear hcl hgb
  have hsb : s[i].toNat = b := hg.symm
  clear hg
  have d1 : decide ((b : Int) < 128) = false := by simp; omega
  have d2 : decide ((194 : Int) ≤ b) = true := by simp; omega
  have d3 : decide ((b : Int) < 224) = false := by simp; omega
  have d4 : decide ((224 : Int) ≤ b) = true := by simp; omega
  have d5 : decide ((b : Int) < 240) = false := by simp; omega
  have d6 : decide ((240 : Int) ≤ b) = true := by simp; omega
  have d7 : decide ((b : Int) < 245) = true := by simp; omega
  by_cases hm : i + 4 ≤ s.size
  · go_enter Try.func107, Try.ntmps107
    go_wp2
    go_loop [8, 10] (fun v j => ∃ k : Nat, 1 ≤ k ∧ k ≤ 4 ∧ j = .int .i64 k ∧ v = .int .i64 (vf s i (b - 240) k : Nat) ∧ Conts s i k) (fun _ j => 4 - (intOf j).toNat)
    case atStart => exact ⟨1, by omega, by omega, rfl, val_int (by rw [vf_one]; omega), fun j h1 h2 => by omega⟩
    case round =>
      obtain ⟨k, hk1, hk2, rfl, rfl, hc⟩ := hrel
      have HC := Lib.hid hc
      clear hc
      have hv := vf_small s i (b - 240) (by omega) k HC.out (by omega)
      by_cases hlt : k < 4
      · have hv3 := hv.2 (by omega)
        have hin : i + k < s.size := by omega
        have hgk : (s.get! (i + k)).toNat = s[i + k].toNat := get_bang s (i + k) hin ▸ rfl
        have HN := Lib.hid (vf_next s i (b - 240) k hk1)
        generalize hV : vf s i (b - 240) k = V at *
        have HV := Lib.hid hV
        have HGK := Lib.hid hgk
        clear hV hv hgk
        by_cases hd : 128 ≤ s[i + k].toNat ∧ s[i + k].toNat < 192
        · obtain ⟨hd1, hd2⟩ := hd
          go_wp2
          exact ⟨⟨k + 1, by omega, by omega, by go_num, val_int (by rw [HN.out, HGK.out]; omega), conts_next HC.out (by rw [HGK.out]; exact hd1) (by rw [HGK.out]; exact hd2)⟩, by simp [intOf]; omega⟩
        · have HB := Lib.hid (size_no s i 4 240 65536 HCL.out (fun h => hd (by have := h.2.1 k hk1 hlt; rw [HGK.out] at this; exact this)))
          by_cases hd1 : 128 ≤ s[i + k].toNat
          · have hd2 : 192 ≤ s[i + k].toNat := by omega
            have hd3 : s[i + k].toNat < 256 := s[i + k].toNat_lt
            clear hd
            go_wp2
            go_ret2
            exact ⟨(sizeE_bad s i HB.out).symm, rfl⟩
          · clear hd
            go_wp2
            go_ret2
            exact ⟨(sizeE_bad s i HB.out).symm, rfl⟩
      · obtain rfl : k = 4 := by omega
        have hv4 := hv.1
        have hno : ¬ fits 65536 (vf s i (b - 240) 4) → badAt s i = true := fun h => size_no s i 4 240 65536 HCL.out (fun x => h (by have := x.2.2; rw [HGB.out] at this; exact this))
        have hyes : fits 65536 (vf s i (b - 240) 4) → Utf8.decode s i = (vf s i (b - 240) 4, 4) ∧ badAt s i = false := fun h => by have := size_yes s i 4 240 65536 HCL.out hm HC.out (by rw [HGB.out]; exact h); rw [HGB.out] at this; exact this
        generalize vf s i (b - 240) 4 = V at *
        have HNO := Lib.hid hno
        have HYES := Lib.hid hyes
        clear hv hno hyes
        by_cases f1 : V < 65536
        · go_wp2
          go_ret2
          exact ⟨(sizeE_bad s i (HNO.out (fun h => by unfold fits at h; omega))).symm, rfl⟩
        · by_cases f2 : 1114111 < V
          · go_wp2
            go_ret2
            exact ⟨(sizeE_bad s i (HNO.out (fun h => by unfold fits at h; omega))).symm, rfl⟩
          · have f3 : 55296 ≤ V := by omega
            have f4 : ¬ V < 57344 := by omega
            go_wp2
            go_ret2
            exact ⟨(sizeE_ok s i V 4 (HYES.out (by unfold fits; omega))).symm, rfl⟩
  · have HB := Lib.hid (size_no s i 4 240 65536 HCL.out (fun h => hm h.1))
    go_enter Try.func107, Try.ntmps107
    go_wp2
    go_ret2
    exact ⟨(sizeE_bad s i HB.out).symm, rfl⟩
set_option maxHeartbeats 400000 in
set_option maxRecDepth 100000 in
theorem size_0 (s : ByteArray) (hs : s.size ≤ 4294967296) (i : Nat) (hi : i < s.size) (b : Nat) (hg : b = s[i].toNat) (hb : 128 ≤ b ∧ b < 194 ∨ 245 ≤ b) (w : World) : Calls Try.prog 107 #[.string s, .int .i64 i] w fun e w' => e = sizeE s i ∧ w = w' := by
  have HB := Lib.hid (size_none s i hi (by rw [get_bang s i hi, ← hg]; exact hb))
  have hsb : s[i].toNat = b := hg.symm
  have hlt : b < 256 := by rw [hg]; exact s[i].toNat_lt
  clear hg
  rcases hb with ⟨h1, h2⟩ | h1
  · go_enter Try.func107, Try.ntmps107
    go_wp2
    go_ret2
    exact ⟨(sizeE_bad s i HB.out).symm, rfl⟩
  · go_enter Try.func107, Try.ntmps107
    go_wp2
    go_ret2
    exact ⟨(sizeE_bad s i HB.out).symm, rfl⟩
set_option maxRecDepth 100000 in
theorem size_1 (s : ByteArray) (hs : s.size ≤ 4294967296) (i : Nat) (hi : i < s.size) (b : Nat) (hg : b = s[i].toNat) (hb : b < 128) (w : World) : Calls Try.prog 107 #[.string s, .int .i64 i] w fun e w' => e = sizeE s i ∧ w = w' := by
  have h1 := size_one s i hi (by rw [get_bang s i hi, ← hg]; exact hb)
  rw [get_bang s i hi, ← hg] at h1
  have HB := Lib.hid h1
  have hsb : s[i].toNat = b := hg.symm
  clear hg h1
  go_enter Try.func107, Try.ntmps107
  go_wp2
  go_ret2
  exact ⟨(sizeE_ok s i b 1 HB.out).symm, rfl⟩
theorem size_any (s : ByteArray) (hs : s.size ≤ 4294967296) (i : Nat) (hi : i < s.size) (w : World) : Calls Try.prog 107 #[.string s, .int .i64 i] w fun e w' => e = sizeE s i ∧ w = w' := by
  by_cases h1 : s[i].toNat < 128
  · exact size_1 s hs i hi _ rfl h1 w
  · by_cases h2 : s[i].toNat < 194
    · exact size_0 s hs i hi _ rfl (.inl ⟨by omega, h2⟩) w
    · by_cases h3 : s[i].toNat < 224
      · exact size_2 s hs i hi _ rfl (by omega) h3 w
      · by_cases h4 : s[i].toNat < 240
        · exact size_3 s hs i hi _ rfl (by omega) h4 w
        · by_cases h5 : s[i].toNat < 245
          · exact size_4 s hs i hi _ rfl (by omega) h5 w
          · exact size_0 s hs i hi _ rfl (.inr (by omega)) w
end Go.Proofs.Ytmdlcalnncncjaa

set_option linter.unusedVariables false
set_option linter.unusedSimpArgs false
namespace Go.Proofs.Ytmdlcalnncncjaa
open Go.RowKit
theorem size_is_bad (s : ByteArray) (hs : s.size ≤ 4294967296) (i : Nat) (hi : i < s.size) (hb : badAt s i = true) (w : World) : Calls Try.prog 107 #[.string s, .int .i64 i] w fun e w' => e = .returned (.tuple #[.int .i64 0, .int .i32 0]) ∧ w = w' :=
  (size_any s hs i hi w).mono fun _ _ ⟨a, b⟩ => ⟨a.trans (sizeE_bad s i hb), b⟩
theorem size_is_ok (s : ByteArray) (hs : s.size ≤ 4294967296) (i : Nat) (hi : i < s.size) (hb : badAt s i = false) (w : World) : Calls Try.prog 107 #[.string s, .int .i64 i] w fun e w' => e = .returned (.tuple #[.int .i64 (Utf8.decode s i).2, .int .i32 (Utf8.decode s i).1]) ∧ w = w' :=
  (size_any s hs i hi w).mono fun _ _ ⟨a, b⟩ => ⟨a.trans (sizeE_ok s i _ _ ⟨rfl, hb⟩), b⟩
set_option maxHeartbeats 400000 in
theorem bad_ref (s : ByteArray) (hs : s.size ≤ 4294967296) (w : World) : Calls Try.prog 78 #[.string s] w fun e w' => e = .returned (.int .i64 (badI s)) ∧ w = w' := by
  go_enter Try.func78, Try.ntmps78
  go_wp2
  go_loop [3] (fun i => ∃ k g : Nat, k ≤ s.size ∧ i = .int .i64 k ∧ badF s g k = badI s ∧ s.size < k + g) (fun i => s.size - (intOf i).toNat)
  case atStart => exact ⟨0, s.size + 1, by omega, rfl, rfl, by omega⟩
  case round =>
    obtain ⟨k, g, hk, rfl, hc, hg⟩ := hrel
    have HC := Lib.hid hc
    clear hc
    by_cases hp : k < s.size
    · cases hb : badAt s k
      · have hd := dec_in s k hp
        obtain ⟨g', h1, h2⟩ := badF_go s g k hp hg hb
        have HR := Lib.hid h1
        have hwd : (((Utf8.decode s k).2 : Int) == 0) = false := by simp; omega
        have hd1 := hd.1
        have hd2 := hd.2.1
        clear h1 hd
        go_wp2_with (go_at_call 107; refine (size_is_ok s hs k hp hb _).mono ?_; rintro e w' ⟨rfl, rfl⟩)
        go_round
        case rel => exact ⟨k + (Utf8.decode s k).2, g', by omega, by go_num, by rw [← HR.out]; exact HC.out, h2⟩
        case measure => simp [intOf]; omega
      · have HR := Lib.hid (badF_hit s g k hp hg hb)
        go_wp2_with (go_at_call 107; refine (size_is_bad s hs k hp hb _).mono ?_; rintro e w' ⟨rfl, rfl⟩)
        go_ret
        exact ⟨ret_int (by rw [← HC.out, HR.out]), rfl⟩
    · go_wp2
      go_ret
      exact ⟨ret_int (by rw [← HC.out, badF_end s g k hp]), rfl⟩
theorem right_iff (s : ByteArray) : rightB s = (badI s == -1) := by
  have := badF_ge s (s.size + 1) 0
  unfold rightB; unfold badI at *
  rw [Bool.eq_iff_iff]; simp; omega
theorem right_ref (s : ByteArray) (hs : s.size ≤ 4294967296) (w : World) : Calls Try.prog 32 #[.string s] w fun e w' => e = .returned (.bool (rightB s)) ∧ w = w' := by
  rw [right_iff]
  go_enter Try.func32, Try.ntmps32
  go_wp2_with (go_at_call 78; refine (bad_ref _ hs _).mono ?_; rintro e w' ⟨rfl, rfl⟩)
  go_ret
  exact ⟨rfl, rfl⟩
end Go.Proofs.Ytmdlcalnncncjaa

/- What a right value is; plain. -/
set_option linter.unusedVariables false
set_option linter.unusedSimpArgs false
namespace Go.Proofs.Ytmdlcalnncncjaa
open Go.RowKit
/-- A value is right but for what is in it. -/
structure TopP (k n : Int) (s : ByteArray) (l f : Nat) : Prop where
  k0 : 0 ≤ k
  k5 : k ≤ 5
  c1 : ¬ (k ≠ 1 ∧ k ≠ 2 ∧ n ≠ 0)
  c2 : ¬ (k ≠ 3 ∧ s.size ≠ 0)
  c3 : ¬ (k ≠ 4 ∧ 0 < l)
  c4 : ¬ (k ≠ 5 ∧ 0 < f)
  c5 : ¬ (k = 1 ∧ n ≠ 0 ∧ n ≠ 1)
  c6 : n ≤ 9007199254740991
  c7 : -9007199254740991 ≤ n
  c8 : rightB s = true
/-- Keys that are texts, and unlike. -/
def KeysP (ks : List ByteArray) : Prop := (∀ x ∈ ks, rightB x = true) ∧ ks.Nodup
mutual
def Va.R : Va → Nat → Prop
  | .mk k n s l ks f, d => 1 ≤ d ∧ TopP k n s l.length f.length ∧ KeysP ks ∧ RL l (d - 1) ∧ RL f (d - 1)
def RL : List Va → Nat → Prop
  | [], _ => True
  | x :: r, d => x.R d ∧ RL r d
end
theorem RL_app : ∀ (l r : List Va) (d : Nat), RL (l ++ r) d ↔ RL l d ∧ RL r d
  | [], r, d => by simp [RL]
  | x :: l, r, d => by simp [RL, RL_app l r d, and_assoc]
theorem RL_mem {x : Va} : ∀ {l : List Va} {d : Nat}, RL l d → x ∈ l → x.R d
  | y :: r, d, h, hx => by
    simp only [RL] at h
    rcases List.mem_cons.1 hx with rfl | hx
    · exact h.1
    · exact RL_mem h.2 hx
theorem RL_step {l : List Va} {i d : Nat} {x : Va} (h : RL (l.take i) d) (hx : l[i]? = some x) (hr : x.R d) : RL (l.take (i + 1)) d := by
  rw [take_next hx, RL_app]
  exact ⟨h, by simp [RL, hr]⟩
theorem ShL_mem {x : Va} : ∀ {l : List Va}, ShL l → x ∈ l → x.Sh
  | y :: r, h, hx => by
    simp only [ShL] at h
    rcases List.mem_cons.1 hx with rfl | hx
    · exact h.1
    · exact ShL_mem h.2 hx
theorem KeysP_nil : KeysP [] := ⟨by simp, by simp⟩
theorem KeysP_step {ks : List ByteArray} {i : Nat} {x : ByteArray} (h : KeysP (ks.take i)) (hx : ks[i]? = some x) (hr : rightB x = true) (hn : x ∉ ks.take i) : KeysP (ks.take (i + 1)) := by
  rw [take_next hx]
  refine ⟨fun y hy => ?_, ?_⟩
  · rcases List.mem_append.1 hy with hy | hy
    · exact h.1 y hy
    · simp at hy; subst hy; exact hr
  · rw [List.nodup_append]
    refine ⟨h.2, by simp, ?_⟩
    intro a ha b hb
    simp at hb
    subst hb
    intro e
    subst e
    exact hn ha
theorem empty_of {s : ByteArray} (h : s.size = 0) : s = ByteArray.empty := by
  apply ByteArray.ext
  apply Array.ext
  · simpa using h
  · intro i h1 h2
    simp at h2
theorem ne_empty {s : ByteArray} (h : s.size ≠ 0) : s.toList.isEmpty = false := by
  have hz : s.size = s.toList.length := by rw [Lib.toList_data, ← Lib.size_eq]
  cases hd : s.toList with
  | nil => rw [hd] at hz; exact absurd hz h
  | cons a b => rfl
theorem is_empty {s : ByteArray} (h : s.size = 0) : s.toList.isEmpty = true := by
  have hz : s.size = s.toList.length := by rw [Lib.toList_data, ← Lib.size_eq]
  cases hd : s.toList with
  | nil => rfl
  | cons a b => rw [hd] at hz; simp at hz; omega
theorem rightB_empty : rightB ByteArray.empty = true := by decide
/-- What a check answers. -/
def YesNo (p : Prop) (w : World) (e : Ending) (w' : World) : Prop := ∃ r : Bool, e = .returned (.bool r) ∧ (r = true ↔ p) ∧ Below w.heap.size w w'
theorem YesNo.no {p : Prop} {w w' : World} (h : ¬ p) (hb : Below w.heap.size w w') : YesNo p w (.returned (.bool false)) w' := ⟨false, rfl, ⟨fun h => absurd h (by decide), fun h' => absurd h' h⟩, hb⟩
theorem YesNo.yes {p : Prop} {w w' : World} (h : p) (hb : Below w.heap.size w w') : YesNo p w (.returned (.bool true)) w' := ⟨true, rfl, ⟨fun _ => h, fun _ => rfl⟩, hb⟩
end Go.Proofs.Ytmdlcalnncncjaa
