/- Lists of tokens in memory, read; the laws' start: awake. -/
import Derived.Test.YtejniiehfangkaaGreatDoorKLexW
set_option linter.unusedVariables false
set_option linter.unusedSimpArgs false
namespace Go.Proofs.YtejniiehfangkaaGreatDoor
open Go.RowKit
/-- A token as it lies: kind, text, place. -/
abbrev Tz := Int × ByteArray × Int
def tz (t : Tkn) : Tz := ((t.k : Int), ⟨t.s.toArray⟩, (t.a : Int))
theorem tz_list (ts : List Tkn) (i : Nat) (t : Tkn) (h : ts[i]? = some t) : (ts.map tz)[i]? = some (tz t) := by rw [List.getElem?_map, h]; rfl
def At3 (w : World) (ad : Addr) (z : Tz) : Prop := w.cell? ad = some (.int .i64 z.1) ∧ w.cell? ⟨ad.block, ad.off + 1, none⟩ = some (.string z.2.1) ∧ w.cell? ⟨ad.block, ad.off + 2, none⟩ = some (.int .i64 z.2.2)
/-- A list of tokens lies there. -/
def TkL (w : World) (a : Option Addr) (zs : List Tz) : Prop := zs ≠ [] → ∃ ad, a = some ad ∧ ad.block < w.heap.size ∧ ∀ i z, zs[i]? = some z → At3 w (ad.add (i * 3)) z
theorem add_blk (ad : Addr) (k : Nat) : (ad.add k).block = ad.block := by unfold Addr.add; split <;> rfl
theorem TkL.below {w w' : World} {a : Option Addr} {zs : List Tz} (h : TkL w a zs) (hb : Below w.heap.size w w') : TkL w' a zs := fun hn => by
  obtain ⟨ad, h1, h2, h3⟩ := h hn
  refine ⟨ad, h1, Nat.lt_of_lt_of_le h2 hb.size, fun i z hz => ?_⟩
  obtain ⟨c0, c1, c2⟩ := h3 i z hz
  have hk : ∀ p : Addr, p.block = ad.block → w'.cell? p = w.cell? p := fun p hp => hb.cell (by rw [hp]; exact h2)
  exact ⟨(hk (ad.add (i * 3)) (add_blk _ _)).trans c0, (hk ⟨(ad.add (i * 3)).block, (ad.add (i * 3)).off + 1, none⟩ (add_blk _ _)).trans c1, (hk ⟨(ad.add (i * 3)).block, (ad.add (i * 3)).off + 2, none⟩ (add_blk _ _)).trans c2⟩
theorem TkL.alloc {w : World} {a : Option Addr} {zs : List Tz} (h : TkL w a zs) (o : Obj) : TkL (w.alloc o) a zs := h.below ((Below.refl _ _).alloc (Nat.le_refl _) o)
theorem TkL.drewN {w : World} {a : Option Addr} {zs : List Tz} (h : TkL w a zs) (n : Nat) : TkL (w.drewN n) a zs := h
theorem TkL.of_own {ts : List Tkn} {w : World} {a : Option Addr} {n cap B : Nat} (h : w.ownsRow B 41 3 (.slice a n cap) n (tkCs ts)) : TkL w a (ts.map tz) := fun hn => by
  rcases h.2 with ⟨h1, h2⟩ | ⟨g, cap', cur, h1, h2, h3, h4, h5, h6, h7⟩
  · subst h2
    have := h.1
    rw [tkCs_len] at this
    exact absurd (List.eq_nil_of_length_eq_zero (show (ts.map tz).length = 0 by rw [List.length_map]; omega)) hn
  · cases h1
    have hadd : ∀ j, (⟨g, 0, none⟩ : Addr).add j = ⟨g, j, none⟩ := fun j => by unfold Addr.add; split <;> simp_all
    refine ⟨_, rfl, (Array.getElem?_eq_some_iff.1 h3).1, fun i z hz => ?_⟩
    obtain ⟨t, ht, rfl⟩ : ∃ t, ts[i]? = some t ∧ tz t = z := by
      rw [List.getElem?_map, Option.map_eq_some_iff] at hz
      exact hz
    have key : ∀ j c, (tkC t)[j]? = some c → w.cell? ⟨g, i * 3 + j, none⟩ = some c := fun j c hc => by
      rw [cell_of_row w g (i * 3 + j) cur _ _ h3]
      have h8 := tkCs_at ts i t j c ht hc
      rw [← h7, List.getElem?_take] at h8
      split at h8
      · simpa using h8
      · cases h8
    unfold At3
    rw [hadd]
    exact ⟨key 0 _ rfl, key 1 _ rfl, key 2 _ rfl⟩
theorem own_lenT {ts : List Tkn} {w : World} {v : Value} {n B : Nat} (h : w.ownsRow B 41 3 v n (tkCs ts)) : ts.length = n := by
  have := h.1
  rw [tkCs_len] at this
  omega
/-- What Lex leaves, as it is read. -/
def LxQ (G : Toks) (w : World) (e : Ending) (w' : World) : Prop := Below w.heap.size w w' ∧ match G with
  | .inl ts => ∃ (a : Option Addr) (c : Nat), e = .returned (.tuple #[.slice a ts.length c, .agg #[.int .i64 0, .int .i64 0]]) ∧ TkL w' a (ts.map tz)
  | .inr q => e = .returned (.tuple #[.slice none 0 0, .agg #[.int .i64 q.1, .int .i64 (q.2 : Nat)]])
theorem lex_read (x : ByteArray) (hs : x.size ≤ 1000000) (w : World) (h : LV w) : Calls Tryz.prog 10 #[.string x] w (LxQ (lexB x) w) := by
  refine (lex_any x hs w h).mono ?_
  rintro e w' ⟨hb, hr⟩
  refine ⟨hb, ?_⟩
  cases hq : lexB x with
  | inl ts =>
    rw [hq] at hr
    obtain ⟨v, h1, h2⟩ := hr
    obtain ⟨a, c, rfl, -⟩ := own_shape h2
    exact ⟨a, c, h1, TkL.of_own h2⟩
  | inr q =>
    rw [hq] at hr
    exact hr
/-! ### awake -/
def wAw : ByteArray := ⟨#[123, 97, 125]⟩
def tAw : List Tkn := [⟨1, [123], 0⟩, ⟨2, [97], 1⟩, ⟨1, [125], 2⟩]
theorem aw_lex : lexB wAw = .inl tAw := by kernel_rfl
set_option maxHeartbeats 1000000 in
set_option maxRecDepth 100000 in
theorem awake_any (w : World) (h : LV w) : Calls Tryz.prog 9 #[] w fun e w' => e = .returned (.bool true) ∧ Below w.heap.size w w' := by
  have KL : Hid (Calls Tryz.prog 10 #[.string ⟨#[123, 97, 125]⟩] w (LxQ (.inl tAw) w)) := Lib.hid (by rw [← aw_lex]; exact lex_read wAw (by decide) w h)
  clear h
  go_enter Tryz.func9, Tryz.ntmps9
  go_wp2_with fail
  refine KL.out.mono ?_
  rintro e w1 ⟨hb, a, c, rfl, hT⟩
  obtain ⟨ad, rfl, hlt, hz⟩ := hT (by simp [tAw])
  have h1 := (hz 1 (2, ⟨#[97]⟩, 1) rfl).2.1
  have hs1 : ∀ o, (w1.alloc o).cell? ⟨ad.block, ad.off + 3 + 1, none⟩ = some (.string ⟨#[97]⟩) := fun o => (World.cell?_alloc_past _ _ _ hlt).trans h1
  have HB := Lib.hid hb
  have hln : tAw.length = 3 := rfl
  rw [hln]
  clear hz hT hb h1 hln
  go_wp2_with fail
  go_ret
  exact ⟨rfl, HB.out.alloc HB.out.size _⟩
end Go.Proofs.YtejniiehfangkaaGreatDoor
