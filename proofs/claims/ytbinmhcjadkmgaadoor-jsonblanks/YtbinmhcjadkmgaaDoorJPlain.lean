/- The JSON of a value, as bytes; plain. -/
import Derived.Test.YtbinmhcjadkmgaaDoorTRight
import Derived.Test.YtbinmhcjadkmgaaDoorQPlain
import Derived.Lib.ItoaLen
import Derived.Lib.Small
set_option linter.unusedVariables false
set_option linter.unusedSimpArgs false
namespace Go.Proofs.YtbinmhcjadkmgaaDoor
open Go.RowKit
mutual
def Va.js : Va → List UInt8
  | .mk k n s l ks f =>
    if k = 1 then (if n = 1 then [116, 114, 117, 101] else [102, 97, 108, 115, 101]) else if k = 2 then Lib.itoa n else if k = 3 then qL s.data.toList
    else if k = 4 then 91 :: (jsL l false ++ [93]) else if k = 5 then 123 :: (jsF f ks false ++ [125]) else [110, 117, 108, 108]
def jsL : List Va → Bool → List UInt8
  | [], _ => []
  | x :: r, b => (if b then [44] else []) ++ (x.js ++ jsL r true)
def jsF : List Va → List ByteArray → Bool → List UInt8
  | [], _, _ => []
  | x :: r, ks, b => (if b then [44] else []) ++ (qL (ks.headD ByteArray.empty).data.toList ++ (58 :: (x.js ++ jsF r ks.tail true)))
end
/-- A comma, ahead of all but the first. -/
def cm (i : Nat) : List UInt8 := if 0 < i then [44] else []
theorem jsL_step : ∀ (l : List Va) (i : Nat) (b : Bool) (x : Va), l[i]? = some x → jsL (l.take (i + 1)) b = jsL (l.take i) b ++ ((if b = true ∨ 0 < i then [44] else []) ++ x.js)
  | [], i, b, x, h => by simp at h
  | y :: r, 0, b, x, h => by
    simp at h; subst h
    cases b <;> simp [jsL]
  | y :: r, i + 1, b, x, h => by
    have ih := jsL_step r i true x (by simpa using h)
    simp only [List.take_succ_cons, jsL]
    rw [ih]
    simp
theorem jsF_step : ∀ (f : List Va) (ks : List ByteArray) (i : Nat) (b : Bool) (x : Va) (key : ByteArray), f[i]? = some x → ks[i]? = some key → jsF (f.take (i + 1)) ks b = jsF (f.take i) ks b ++ ((if b = true ∨ 0 < i then [44] else []) ++ (qL key.data.toList ++ (58 :: x.js)))
  | [], ks, i, b, x, key, h, _ => by simp at h
  | y :: r, [], i, b, x, key, h, hk => by simp at hk
  | y :: r, k :: ks, 0, b, x, key, h, hk => by
    simp at h hk; subst h hk
    cases b <;> simp [jsF]
  | y :: r, k :: ks, i + 1, b, x, key, h, hk => by
    have ih := jsF_step r ks i true x key (by simpa using h) (by simpa using hk)
    simp only [List.take_succ_cons, jsF, List.headD_cons, List.tail_cons]
    rw [ih]
    simp
theorem jsL_at (l : List Va) (i : Nat) (x : Va) (h : l[i]? = some x) : jsL (l.take (i + 1)) false = jsL (l.take i) false ++ (cm i ++ x.js) := by
  rw [jsL_step l i false x h]; simp [cm]
theorem jsF_at (f : List Va) (ks : List ByteArray) (i : Nat) (x : Va) (key : ByteArray) (h : f[i]? = some x) (hk : ks[i]? = some key) : jsF (f.take (i + 1)) ks false = jsF (f.take i) ks false ++ (cm i ++ (qL key.data.toList ++ (58 :: x.js))) := by
  rw [jsF_step f ks i false x key h hk]; simp [cm]
theorem jsL_le : ∀ (l : List Va) (i : Nat) (b : Bool), (jsL (l.take i) b).length ≤ (jsL l b).length
  | [], i, b => by simp
  | y :: r, 0, b => by simp [jsL]
  | y :: r, i + 1, b => by
    have := jsL_le r i true
    simp only [List.take_succ_cons, jsL, List.length_append]; omega
theorem jsF_le : ∀ (f : List Va) (ks : List ByteArray) (i : Nat) (b : Bool), (jsF (f.take i) ks b).length ≤ (jsF f ks b).length
  | [], ks, i, b => by simp
  | y :: r, ks, 0, b => by simp [jsF]
  | y :: r, ks, i + 1, b => by
    have := jsF_le r ks.tail i true
    simp only [List.take_succ_cons, jsF, List.length_append, List.length_cons]; omega
theorem qL_len (s : ByteArray) : (qL s.data.toList).length ≤ 6 * s.size + 2 := by
  have := (qIn_len s.data.toList).2
  rw [← Lib.size_eq] at this
  simp [qL]; omega
/-- How long the JSON of a value is that isn't great. -/
def JLen (x : Va) : Prop := x.js.length + 3010 ≤ 6100 * x.cnt
theorem jsL_len : ∀ (l : List Va) (b : Bool), (∀ x ∈ l, JLen x) → (jsL l b).length ≤ 6100 * cntL l
  | [], b, _ => by simp [jsL]
  | x :: r, b, h => by
    have h1 := jsL_len r true (fun y hy => h y (by simp [hy]))
    have h2 := h x (by simp)
    have h5 : (if b = true then [(44 : UInt8)] else []).length ≤ 1 := by split <;> simp
    unfold JLen at h2
    simp only [jsL, cntL, List.length_append]
    omega
theorem jsF_len : ∀ (f : List Va) (ks : List ByteArray) (b : Bool), (∀ x ∈ f, JLen x) → (∀ k ∈ ks, k.size ≤ 500) → (jsF f ks b).length ≤ 6100 * cntL f
  | [], ks, b, _, _ => by simp [jsF]
  | x :: r, ks, b, h, hk => by
    have h1 := jsF_len r ks.tail true (fun y hy => h y (by simp [hy])) (fun y hy => hk y (List.mem_of_mem_tail hy))
    have h2 := h x (by simp)
    have h5 : (if b = true then [(44 : UInt8)] else []).length ≤ 1 := by split <;> simp
    have h6 : (ks.headD ByteArray.empty).size ≤ 500 := by
      cases ks with
      | nil => decide
      | cons k ks => exact hk k (by simp)
    have h7 := qL_len (ks.headD ByteArray.empty)
    unfold JLen at h2
    simp only [jsF, cntL, List.length_append, List.length_cons]
    omega
theorem js_len0 : ∀ (a : Va) (d : Nat), a.R d → a.Sh → JLen a := by
  intro a
  induction a using Va.ind with
  | h k n s l ks f ihl ihf =>
    intro d hr hs
    simp only [Va.R] at hr
    simp only [Va.Sh] at hs
    obtain ⟨-, htop, -, hrl, hrf⟩ := hr
    obtain ⟨hs1, hs2, hs3, hs4⟩ := hs
    have h1 := jsL_len l false (fun x hx => ihl x hx (d - 1) (RL_mem hrl hx) (ShL_mem hs2 hx))
    have h2 := jsF_len f ks false (fun x hx => ihf x hx (d - 1) (RL_mem hrf hx) (ShL_mem hs4 hx)) hs3
    have h3 := qL_len s
    have h4 := Lib.itoa_length_le n (by have := htop.c7; omega) (by have := htop.c6; omega)
    unfold JLen
    simp only [Va.js, Va.cnt]
    repeat' split
    all_goals try simp only [List.length_cons, List.length_append, List.length_nil]
    all_goals omega
theorem js_len {a : Va} {d : Nat} (h : a.R d) (hs : a.Sh) : a.js.length ≤ 6100 * a.cnt := by
  have := js_len0 a d h hs
  unfold JLen at this
  omega
/-- What is put, by kinds. -/
theorem js_null {k n : Int} {s : ByteArray} {l : List Va} {ks : List ByteArray} {f : List Va} (h : k = 0) : (Va.mk k n s l ks f).js = [110, 117, 108, 108] := by subst h; simp [Va.js]
theorem js_bool {k n : Int} {s : ByteArray} {l : List Va} {ks : List ByteArray} {f : List Va} (h : k = 1) : (Va.mk k n s l ks f).js = Lib.formatBool (n == 1) := by
  subst h
  simp only [Va.js, if_true, Lib.formatBool]
  by_cases hn : n = 1
  · subst hn; decide
  · have : (n == 1) = false := by simpa using hn
    rw [this, if_neg hn]
    decide
theorem js_int {k n : Int} {s : ByteArray} {l : List Va} {ks : List ByteArray} {f : List Va} (h : k = 2) : (Va.mk k n s l ks f).js = Lib.itoa n := by subst h; simp [Va.js]
theorem js_str {k n : Int} {s : ByteArray} {l : List Va} {ks : List ByteArray} {f : List Va} (h : k = 3) : (Va.mk k n s l ks f).js = qL s.data.toList := by subst h; simp [Va.js]
theorem js_list {k n : Int} {s : ByteArray} {l : List Va} {ks : List ByteArray} {f : List Va} (h : k = 4) : (Va.mk k n s l ks f).js = 91 :: (jsL l false ++ [93]) := by subst h; simp [Va.js]
theorem js_obj {k n : Int} {s : ByteArray} {l : List Va} {ks : List ByteArray} {f : List Va} (h : k = 5) : (Va.mk k n s l ks f).js = 123 :: (jsF f ks false ++ [125]) := by subst h; simp [Va.js]
end Go.Proofs.YtbinmhcjadkmgaaDoor
