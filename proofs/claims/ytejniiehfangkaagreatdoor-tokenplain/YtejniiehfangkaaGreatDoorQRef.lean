/- The document's own Quote, walked. -/
import Derived.Test.YtejniiehfangkaaGreatDoorQWalk
set_option linter.unusedVariables false
set_option linter.unusedSimpArgs false
namespace Go.Proofs.YtejniiehfangkaaGreatDoor
open Go.RowKit
theorem mk_app (a b : List UInt8) : (⟨a.toArray⟩ : ByteArray) ++ ⟨b.toArray⟩ = ⟨(a ++ b).toArray⟩ := by
  apply ByteArray.ext
  have := Joins.data_append ⟨a.toArray⟩ ⟨b.toArray⟩
  exact Array.toList_inj.1 this
theorem conv_new (w : World) (l : List UInt8) (cs : Array Value) (n : Nat) (hn : l.length = n) (hcs : cs = (Lib.byteCells l).toArray) :
    (convert 34 9 (.slice (some ⟨w.heap.size, 0, none⟩) n n)).run Tryz.prog (w.alloc (.cells cs 5)) = .ok (.string ⟨l.toArray⟩) (w.alloc (.cells cs 5)) := by
  subst hn hcs
  refine run_convert_bytes_back (P := Tryz.prog) _ 34 9 5 ⟨w.heap.size, 0, none⟩ l.length l Tryz.underlying34 Tryz.underlying5 Tryz.underlying9 (fun j hj => ?_)
  exact cells_new w (Lib.byteCells l) 5 j _ (by simp [Lib.byteCells, hj])
/-- What stands behind a sign 5c for a byte; 0: nothing of one sign. -/
def plN (c : Nat) : Nat := if c = 34 ∨ c = 92 then c else if c = 8 then 98 else if c = 12 then 102 else if c = 10 then 110 else if c = 13 then 114 else if c = 9 then 116 else 0
set_option maxHeartbeats 1000000 in
set_option maxRecDepth 100000 in
theorem plain_any (z : Int) (h0 : 0 ≤ z) (w : World) : Calls Tryz.prog 51 #[.int .u8 z] w fun e w' => e = .returned (.int .u8 (plN z.toNat)) ∧ w = w' := by
  have go : ∀ (v : Int), v = plN z.toNat → (Ending.returned (.int .u8 v) = .returned (.int .u8 (plN z.toNat))) := fun v h => by rw [h]
  have GO := Lib.hid go
  clear go
  by_cases c1 : z = 34
  · subst c1; go_enter Tryz.func51, Tryz.ntmps51; go_wp2; go_ret; exact ⟨GO.out _ (by decide), rfl⟩
  by_cases c2 : z = 92
  · subst c2; go_enter Tryz.func51, Tryz.ntmps51; go_wp2; go_ret; exact ⟨GO.out _ (by decide), rfl⟩
  by_cases c3 : z = 8
  · subst c3; go_enter Tryz.func51, Tryz.ntmps51; go_wp2; go_ret; exact ⟨GO.out _ (by decide), rfl⟩
  by_cases c4 : z = 12
  · subst c4; go_enter Tryz.func51, Tryz.ntmps51; go_wp2; go_ret; exact ⟨GO.out _ (by decide), rfl⟩
  by_cases c5 : z = 10
  · subst c5; go_enter Tryz.func51, Tryz.ntmps51; go_wp2; go_ret; exact ⟨GO.out _ (by decide), rfl⟩
  by_cases c6 : z = 13
  · subst c6; go_enter Tryz.func51, Tryz.ntmps51; go_wp2; go_ret; exact ⟨GO.out _ (by decide), rfl⟩
  by_cases c7 : z = 9
  · subst c7; go_enter Tryz.func51, Tryz.ntmps51; go_wp2; go_ret; exact ⟨GO.out _ (by decide), rfl⟩
  have e : plN z.toNat = 0 := by unfold plN; repeat (rw [if_neg (by omega)])
  have E := Lib.hid e
  clear e
  go_enter Tryz.func51, Tryz.ntmps51
  go_wp2
  go_ret
  exact ⟨GO.out _ (by rw [E.out]; rfl), rfl⟩
theorem plain_at (c p : Nat) (hp : plN c = p) (w : World) : Calls Tryz.prog 51 #[.int .u8 c] w fun e w' => e = .returned (.int .u8 p) ∧ w = w' := by
  subst hp
  exact plain_any c (by omega) w
set_option maxHeartbeats 1000000 in
theorem hex_any (n : Nat) (z : Int) (hz : Hid (z = n)) (h0 : 0 ≤ z) (h1 : z < 16) (w : World) : Calls Tryz.prog 52 #[.int .i64 z] w fun e w' => e = .returned (.string ⟨[hexB n].toArray⟩) ∧ Below w.heap.size w w' := by
  have hzn := hz.out
  by_cases h : z < 10
  · have he : hexB n = UInt8.ofNat (48 + n) := by unfold hexB; rw [if_pos (by omega)]
    have hbc : Lib.byteCells [hexB n] = [.int .u8 (48 + z)] := by
      rw [he]; simp only [Lib.byteCells, List.map_cons, List.map_nil, u8 (48 + n) (by omega)]; rw [hzn]; rfl
    have hcv := conv_new w [hexB n] #[.int .u8 (48 + z)] 1 rfl (by rw [hbc])
    generalize [hexB n] = L at *
    clear he hbc hzn
    go_enter Tryz.func52, Tryz.ntmps52
    go_wp2
    go_ret
    exact ⟨rfl, (Below.refl _ _).alloc (Nat.le_refl _) _⟩
  · have he : hexB n = UInt8.ofNat (87 + n) := by unfold hexB; rw [if_neg (by omega)]
    have hbc : Lib.byteCells [hexB n] = [.int .u8 (87 + z)] := by
      rw [he]; simp only [Lib.byteCells, List.map_cons, List.map_nil, u8 (87 + n) (by omega)]; rw [hzn]; rfl
    have hcv := conv_new w [hexB n] #[.int .u8 (87 + z)] 1 rfl (by rw [hbc])
    generalize [hexB n] = L at *
    clear he hbc hzn
    go_enter Tryz.func52, Tryz.ntmps52
    go_wp2
    go_ret
    exact ⟨rfl, (Below.refl _ _).alloc (Nat.le_refl _) _⟩
set_option maxRecDepth 100000 in
theorem qb_pl (c : UInt8) : qb c = if plN c.toNat ≠ 0 then [92, UInt8.ofNat (plN c.toNat)] else if c.toNat < 32 then [92, 117, 48, 48, hexB (c.toNat / 16), hexB (c.toNat % 16)] else [c] := by
  have key : ∀ k : Fin 256, qb (UInt8.ofNat k.val) = if plN k.val ≠ 0 then [92, UInt8.ofNat (plN k.val)] else if k.val < 32 then [92, 117, 48, 48, hexB (k.val / 16), hexB (k.val % 16)] else [UInt8.ofNat k.val] := by decide +kernel
  have h := key ⟨c.toNat, c.toNat_lt⟩
  simp only [UInt8.ofNat_toNat] at h
  exact h
theorem plN_lt (c : Nat) (h : c < 256) : plN c < 256 := by
  unfold plN
  repeat' split
  all_goals omega
theorem take_byte (s : ByteArray) (k : Nat) (h : k < s.size) : s.data.toList.take (k + 1) = s.data.toList.take k ++ [s[k]] := by
  rw [List.take_succ_eq_append_getElem (by simpa using h)]; rfl
theorem qIn_snoc (l : List UInt8) (c : UInt8) : qIn (l ++ [c]) = qIn l ++ qb c := by simp [qIn]
theorem ext_one (s : ByteArray) (k : Nat) (h : k < s.size) : s.extract k (k + 1) = ⟨[s[k]].toArray⟩ := by
  rw [Lib.extract_eq]
  congr 1
  rw [drop_cons s k h, get_bang s k h]
  simp
set_option maxHeartbeats 2000000 in
set_option maxRecDepth 100000 in
theorem quote_ref (s : ByteArray) (hs : s.size ≤ 1048576) (w : World) :
    Calls Tryz.prog 31 #[.string s] w fun e w' => e = .returned (.string (quoteB s)) ∧ Below w.heap.size w w' := by
  go_enter Tryz.func31, Tryz.ntmps31
  go_wp2
  go_loopw [3, 4] (fun o i wr => ∃ k : Nat, k ≤ s.size ∧ i = .int .i64 k ∧ o = .string ⟨(34 :: qIn (s.data.toList.take k)).toArray⟩ ∧ Below w.heap.size w wr) (fun _ i _ => s.size - (intOf i).toNat)
  case atStart => exact ⟨0, Nat.zero_le _, rfl, rfl, Below.refl _ _⟩
  case round =>
    obtain ⟨k, hk, rfl, rfl, hb⟩ := hrel
    have hl : (34 :: qIn (s.data.toList.take k)).length ≤ 6291457 := by
      have := (qIn_len (s.data.toList.take k)).2; rw [List.length_take] at this; simp only [List.length_cons]; omega
    generalize hS : 34 :: qIn (s.data.toList.take k) = S at *
    have HS := Lib.hid hS
    clear hS
    by_cases hlt : k < s.size
    · have HT := Lib.hid (take_byte s k hlt)
      have HQ := Lib.hid (qb_pl s[k])
      have HX := Lib.hid (ext_one s k hlt)
      have hpl := fun W => plain_at s[k].toNat _ rfl W
      have hpp := plN_lt s[k].toNat s[k].toNat_lt
      have hc8 : s[k].toNat < 256 := s[k].toNat_lt
      have HN : Hid (∀ X : List UInt8, X = qb s[k] → (⟨(S ++ X).toArray⟩ : ByteArray) = ⟨(34 :: qIn (s.data.toList.take (k + 1))).toArray⟩) := fun X hX => by
        rw [hX, HT.out, qIn_snoc, ← List.cons_append, HS.out]
      generalize hp : plN s[k].toNat = p at *
      have HP := Lib.hid hp
      have HPL := Lib.hid hpl
      clear hp hpl
      by_cases h0 : p = 0
      · subst h0
        by_cases h32 : s[k].toNat < 32
        · have HH : Hid (qb s[k] = [92, 117, 48, 48, hexB (s[k].toNat / 16), hexB (s[k].toNat % 16)]) := by
            have := HQ.out; rw [if_neg (by simp), if_pos h32] at this; exact this
          have ha := fun W => hex_any (s[k].toNat / 16) ((s[k].toNat : Int) / 16) (Lib.hid rfl) (by omega) (by omega) W
          have hb' := fun W => hex_any (s[k].toNat % 16) ((s[k].toNat : Int) % 16) (Lib.hid rfl) (by omega) (by omega) W
          generalize hexB (s[k].toNat / 16) = A at *
          generalize hexB (s[k].toNat % 16) = C at *
          have HA := Lib.hid ha
          have HB' := Lib.hid hb'
          clear ha hb'
          go_wp2_with fail
          refine (HPL.out _).mono ?_
          rintro e w' ⟨rfl, rfl⟩
          go_wp2_with fail
          refine (HA.out _).mono ?_
          rintro e w3 ⟨rfl, hb3⟩
          go_wp2_with fail
          refine (HB'.out _).mono ?_
          rintro e w4 ⟨rfl, hb4⟩
          go_wp2_with fail
          exact ⟨⟨k + 1, by omega, by go_num, congrArg Value.string (by rw [mk_app [92, 117, 48, 48] [A], mk_app, mk_app]; exact HN.out _ HH.out.symm), hb.trans ((hb3.mono hb.size).trans (hb4.mono (Nat.le_trans hb.size hb3.size)))⟩, by simp [intOf]; omega⟩
        · have HH : Hid (qb s[k] = [s[k]]) := by
            have := HQ.out; rw [if_neg (by simp), if_neg h32] at this; exact this
          go_wp2_with fail
          refine (HPL.out _).mono ?_
          rintro e w' ⟨rfl, rfl⟩
          go_wp2_with fail
          exact ⟨⟨k + 1, by omega, by go_num, congrArg Value.string (by rw [HX.out, mk_app]; exact HN.out _ HH.out.symm), hb⟩, by simp [intOf]; omega⟩
      · have HH : Hid (qb s[k] = [92, UInt8.ofNat p]) := by
          have := HQ.out; rw [if_pos h0] at this; exact this
        have hz : ((p : Int) == 0) = false := by simp; omega
        have hcv := conv_new wr [92, UInt8.ofNat p] #[.int .u8 92, .int .u8 p] 2 rfl (by simp [Lib.byteCells, Nat.mod_eq_of_lt hpp])
        have hL2 : [92, UInt8.ofNat p].length ≤ 2 := Nat.le_refl _
        generalize [92, UInt8.ofNat p] = L at *
        go_wp2_with fail
        refine (HPL.out _).mono ?_
        rintro e w' ⟨rfl, rfl⟩
        go_wp2_with fail
        exact ⟨⟨k + 1, by omega, by go_num, congrArg Value.string (by rw [mk_app]; exact HN.out _ HH.out.symm), hb.alloc hb.size _⟩, by simp [intOf]; omega⟩
    · go_wp2
      go_ret
      refine ⟨?_, hb⟩
      have e1 := HS.out
      rw [List.take_of_length_le (by rw [← Lib.size_eq]; omega)] at e1
      rw [mk_app S [34], ← e1]
      rfl
end Go.Proofs.YtejniiehfangkaaGreatDoor
