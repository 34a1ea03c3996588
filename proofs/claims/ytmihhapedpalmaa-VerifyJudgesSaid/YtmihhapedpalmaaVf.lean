/- Verification: what is told of a verdict (no maps). -/
import Derived.Test.YtmihhapedpalmaaPs3
namespace Go.Proofs.Ytmihhapedpalmaa
open Go.RowKit Go.Own
set_option linter.unusedVariables false
set_option linter.unusedSimpArgs false
theorem bit0 : ∀ a : Nat, a < 256 → a &&& 1 = a % 2 := by decide +kernel
theorem bit3 : ∀ a : Nat, a < 256 → a &&& 8 = 8 * (a / 8 % 2) := by decide +kernel
set_option maxRecDepth 100000 in
set_option maxHeartbeats 4000000 in
theorem vWants (k i a s u c : Nat) (d : Value) (st : Bool) (w : World) (hk : k < 256) (ha : a < 256) :
    Calls Try.prog 38 #[.agg #[.int .u8 (k : Nat), .int .u32 (i : Nat), .int .u8 (a : Nat), .int .u8 (s : Nat), .int .u8 (u : Nat), .int .u16 (c : Nat), d], .bool st] w fun e w' => e = .returned (.bool (decide (k ≠ 0) || decide ((if st then a % 2 else a / 8 % 2) = 1))) ∧ Below w.heap.size w w' := by
  have b1 : bits .and .u8 (a : Int) 1 = ((a &&& 1 : Nat) : Int) := and8u a 1 ha (by omega)
  have b8 : bits .and .u8 (a : Int) 8 = ((a &&& 8 : Nat) : Int) := and8u a 8 ha (by omega)
  rw [bit0 a ha] at b1
  rw [bit3 a ha] at b8
  cases st with
  | true =>
    obtain ⟨t, ht⟩ : ∃ t, t = a % 2 := ⟨_, rfl⟩
    rw [← ht] at b1
    rw [if_pos rfl, ← ht]
    have h2 : t = 0 ∨ t = 1 := by omega
    clear ht b8
    by_cases hk0 : k = 0 <;> rcases h2 with rfl | rfl
    all_goals
      go_enter Try.func38, Try.ntmps38
      go_wp2
      go_ret
      exact ⟨by simp [hk0, b1], by repeat' (first | (with_reducible exact Below.refl _ _) | (with_reducible assumption) | (with_reducible refine Below.setCell ?_ ?_ _) | (with_reducible refine Below.alloc ?_ ?_ _) | (with_reducible refine Below.drew ?_) | (with_reducible refine Below.drawsN ?_ _) | go_size)⟩
  | false =>
    obtain ⟨t, ht⟩ : ∃ t, t = a / 8 % 2 := ⟨_, rfl⟩
    rw [← ht] at b8
    rw [if_neg (by decide), ← ht]
    have h2 : t = 0 ∨ t = 1 := by omega
    clear ht b1
    by_cases hk0 : k = 0 <;> rcases h2 with rfl | rfl
    all_goals
      go_enter Try.func38, Try.ntmps38
      go_wp2
      go_ret
      exact ⟨by simp [hk0, b8], by repeat' (first | (with_reducible exact Below.refl _ _) | (with_reducible assumption) | (with_reducible refine Below.setCell ?_ ?_ _) | (with_reducible refine Below.alloc ?_ ?_ _) | (with_reducible refine Below.drew ?_) | (with_reducible refine Below.drawsN ?_ _) | go_size)⟩
theorem lay_id (i : Nat) : flat (fun j => lay1 (([4] : List Int).getD j 0) (nth (fun n => ([i] : List Nat).getD n 0) 1 j)) 1 = numB i 4 := by
  simp [flat, List.range_succ, lay1, nth]
theorem lay_idk (i k : Nat) (hk : k < 256) : flat (fun j => lay1 (([4, 1] : List Int).getD j 0) (nth (fun n => ([i, k] : List Nat).getD n 0) 2 j)) 2 = numB i 4 ++ [k] := by
  simp [flat, List.range_succ, lay1, nth, numB]
  omega
/-- The data of a report on a verdict. -/
def vData (i k : Nat) : List Nat := if k = 0 then numB i 4 else numB i 4 ++ [k]
/-- The sub of a report on a verdict. -/
def vSub (k g b : Nat) : Nat := if k = 0 then g else b
/- #1 the sizes' row, #2 the numbers' row, #3 how many, #4 sizes, #5 numbers -/
set_option maxRecDepth 100000 in
set_option maxHeartbeats 4000000 in
theorem vReport (k i a s u c k2 g b : Nat) (d : Value) (w : World) (hi : i < 4294967296) (hk : k2 < 256) :
    Calls Try.prog 74 #[.agg #[.int .u8 (k : Nat), .int .u32 (i : Nat), .int .u8 (a : Nat), .int .u8 (s : Nat), .int .u8 (u : Nat), .int .u16 (c : Nat), d], .int .u8 (k2 : Nat), .int .u8 (g : Nat), .int .u8 (b : Nat)] w fun e w' => ∃ p, e = .returned (.tuple #[.int .u8 (vSub k2 g b : Nat), p]) ∧ w'.ownsRow w.heap.size 5 1 p (vData i k2).length (bl (vData i k2)) ∧ Below w.heap.size w w' := by
  by_cases h : k2 = 0
  · subst h
    rw [show vSub 0 g b = g from rfl, show vData i 0 = numB i 4 from rfl]
    have HLAY := Lib.hid (lay_id i)
    have H32 := Lib.hid (show ∀ j, j < 1 → ([i] : List Nat).getD j 0 < 4294967296 by
      intro j hj
      have : j = 0 := by omega
      subst this
      exact hi)
    go_enter Try.func74, Try.ntmps74
    go_wp2_with fail
    skip
    have hbc : Below w.heap.size w (((w.alloc (.cells #[.int .u8 (k : Nat), .int .u32 (i : Nat), .int .u8 (a : Nat), .int .u8 (s : Nat), .int .u8 (u : Nat), .int .u16 (c : Nat), d] 70)).alloc (.cells #[.int .i64 4] 3)).alloc (.cells #[.int .u32 (i : Nat)] 68)) := by repeat' (first | (with_reducible exact Below.refl _ _) | (with_reducible assumption) | (with_reducible refine Below.setCell ?_ ?_ _) | (with_reducible refine Below.alloc ?_ ?_ _) | (with_reducible refine Below.drew ?_) | (with_reducible refine Below.drawsN ?_ _) | go_size)
    obtain ⟨hX, hY, hZ⟩ := heap3 w #[.int .u8 (k : Nat), .int .u32 (i : Nat), .int .u8 (a : Nat), .int .u8 (s : Nat), .int .u8 (u : Nat), .int .u16 (c : Nat), d] #[.int .i64 4] #[.int .u32 (i : Nat)] 70 3 68
    obtain ⟨w3, hw3⟩ : ∃ w3, w3 = ((w.alloc (.cells #[.int .u8 (k : Nat), .int .u32 (i : Nat), .int .u8 (a : Nat), .int .u8 (s : Nat), .int .u8 (u : Nat), .int .u16 (c : Nat), d] 70)).alloc (.cells #[.int .i64 4] 3)).alloc (.cells #[.int .u32 (i : Nat)] 68) := ⟨_, rfl⟩
    rw [← hw3] at hbc hX hY hZ ⊢
    have r1 := rd_map (n := w3.heap.size) (m := 1) ([4] : List Int) 0 (fun z => Value.int .i64 z) hY (Array.getElem?_eq_some_iff.1 hY).1 rfl (by decide)
    have r2 := rd_map (n := w3.heap.size) (m := 1) ([i] : List Nat) 0 (fun z => Value.int .u32 ((z : Nat) : Int)) hZ (Array.getElem?_eq_some_iff.1 hZ).1 rfl (by decide)
    clear hw3 hX hY hZ
    go_at_call 83
    refine (Lay_any _ _ 1 1 1 1 _ _ (fun jj => ([4] : List Int).getD jj 0) (fun jj => ([i] : List Nat).getD jj 0) w3 r1 r2 (Nat.le_refl _) (Nat.le_refl _) ?_ (by decide)).mono ?_
    · exact H32.out
    rintro e w4 ⟨v, rfl, hown, hb4⟩
    rw [HLAY.out] at hown
    have HO := Lib.hid (own_base hown hbc.size)
    have HB := Lib.hid (hbc.trans (hb4.mono hbc.size))
    clear r1 r2 hbc hown hb4
    go_wp2
    go_ret2
    exact ⟨_, rfl, HO.out, HB.out⟩
  · rw [show vSub k2 g b = b from if_neg h, show vData i k2 = numB i 4 ++ [k2] from if_neg h]
    have HLAY := Lib.hid (lay_idk i k2 hk)
    have H32 := Lib.hid (show ∀ j, j < 2 → ([i, k2] : List Nat).getD j 0 < 4294967296 by
      intro j hj
      have : j = 0 ∨ j = 1 := by omega
      rcases this with rfl | rfl
      · exact hi
      · show k2 < 4294967296
        omega)
    have hh : ((k2 : Int) == 0) = false := by rw [beq_eq_false_iff_ne]; omega
    go_enter Try.func74, Try.ntmps74
    go_wp2_with fail
    skip
    have hbc : Below w.heap.size w (((w.alloc (.cells #[.int .u8 (k : Nat), .int .u32 (i : Nat), .int .u8 (a : Nat), .int .u8 (s : Nat), .int .u8 (u : Nat), .int .u16 (c : Nat), d] 70)).alloc (.cells #[.int .i64 4, .int .i64 1] 3)).alloc (.cells #[.int .u32 (i : Nat), .int .u32 (k2 : Nat)] 68)) := by repeat' (first | (with_reducible exact Below.refl _ _) | (with_reducible assumption) | (with_reducible refine Below.setCell ?_ ?_ _) | (with_reducible refine Below.alloc ?_ ?_ _) | (with_reducible refine Below.drew ?_) | (with_reducible refine Below.drawsN ?_ _) | go_size)
    obtain ⟨hX, hY, hZ⟩ := heap3 w #[.int .u8 (k : Nat), .int .u32 (i : Nat), .int .u8 (a : Nat), .int .u8 (s : Nat), .int .u8 (u : Nat), .int .u16 (c : Nat), d] #[.int .i64 4, .int .i64 1] #[.int .u32 (i : Nat), .int .u32 (k2 : Nat)] 70 3 68
    obtain ⟨w3, hw3⟩ : ∃ w3, w3 = ((w.alloc (.cells #[.int .u8 (k : Nat), .int .u32 (i : Nat), .int .u8 (a : Nat), .int .u8 (s : Nat), .int .u8 (u : Nat), .int .u16 (c : Nat), d] 70)).alloc (.cells #[.int .i64 4, .int .i64 1] 3)).alloc (.cells #[.int .u32 (i : Nat), .int .u32 (k2 : Nat)] 68) := ⟨_, rfl⟩
    rw [← hw3] at hbc hX hY hZ ⊢
    have r1 := rd_map (n := w3.heap.size) (m := 2) ([4, 1] : List Int) 0 (fun z => Value.int .i64 z) hY (Array.getElem?_eq_some_iff.1 hY).1 rfl (by decide)
    have r2 := rd_map (n := w3.heap.size) (m := 2) ([i, k2] : List Nat) 0 (fun z => Value.int .u32 ((z : Nat) : Int)) hZ (Array.getElem?_eq_some_iff.1 hZ).1 rfl (by decide)
    clear hw3 hX hY hZ
    go_at_call 83
    refine (Lay_any _ _ 2 2 2 2 _ _ (fun jj => ([4, 1] : List Int).getD jj 0) (fun jj => ([i, k2] : List Nat).getD jj 0) w3 r1 r2 (Nat.le_refl _) (Nat.le_refl _) ?_ (by decide)).mono ?_
    · exact H32.out
    rintro e w4 ⟨v, rfl, hown, hb4⟩
    rw [HLAY.out] at hown
    have HO := Lib.hid (own_base hown hbc.size)
    have HB := Lib.hid (hbc.trans (hb4.mono hbc.size))
    clear r1 r2 hbc hown hb4
    go_wp2
    go_ret2
    exact ⟨_, rfl, HO.out, HB.out⟩
set_option maxRecDepth 100000 in
set_option maxHeartbeats 1000000 in
theorem vAccepted (k i a s u c : Nat) (d : Value) (w : World) (hk : k < 256) (hi : i < 4294967296) :
    Calls Try.prog 35 #[.agg #[.int .u8 (k : Nat), .int .u32 (i : Nat), .int .u8 (a : Nat), .int .u8 (s : Nat), .int .u8 (u : Nat), .int .u16 (c : Nat), d]] w fun e w' => ∃ p, e = .returned (.tuple #[.int .u8 (vSub k 1 2 : Nat), p]) ∧ w'.ownsRow w.heap.size 5 1 p (vData i k).length (bl (vData i k)) ∧ Below w.heap.size w w' := by
  skip
  have hb0 : Below w.heap.size w (w.alloc (.cells #[.int .u8 (k : Nat), .int .u32 (i : Nat), .int .u8 (a : Nat), .int .u8 (s : Nat), .int .u8 (u : Nat), .int .u16 (c : Nat), d] 70)) := (Below.refl _ _).alloc (Nat.le_refl _) _
  go_enter Try.func35, Try.ntmps35
  go_wp2_with fail
  go_at_call 74
  refine (vReport k i a s u c k 1 2 d _ hi hk).mono ?_
  rintro e w' ⟨p, rfl, hown, hb⟩
  have HO := Lib.hid (own_base hown hb0.size)
  have HB := Lib.hid (hb0.trans (hb.mono hb0.size))
  obtain ⟨r, hr⟩ : ∃ r : Nat, r = vSub k 1 2 := ⟨_, rfl⟩
  rw [← hr]
  have HR := Lib.hid hr
  clear hown hb hb0 hr
  go_wp2
  go_ret2
  rw [← HR.out]
  exact ⟨_, rfl, HO.out, HB.out⟩
set_option maxRecDepth 100000 in
set_option maxHeartbeats 1000000 in
theorem vDone (k i a s u c k2 : Nat) (d : Value) (w : World) (hk : k2 < 256) (hi : i < 4294967296) :
    Calls Try.prog 36 #[.agg #[.int .u8 (k : Nat), .int .u32 (i : Nat), .int .u8 (a : Nat), .int .u8 (s : Nat), .int .u8 (u : Nat), .int .u16 (c : Nat), d], .int .u8 (k2 : Nat)] w fun e w' => ∃ p, e = .returned (.tuple #[.int .u8 (vSub k2 7 8 : Nat), p]) ∧ w'.ownsRow w.heap.size 5 1 p (vData i k2).length (bl (vData i k2)) ∧ Below w.heap.size w w' := by
  skip
  have hb0 : Below w.heap.size w (w.alloc (.cells #[.int .u8 (k : Nat), .int .u32 (i : Nat), .int .u8 (a : Nat), .int .u8 (s : Nat), .int .u8 (u : Nat), .int .u16 (c : Nat), d] 70)) := (Below.refl _ _).alloc (Nat.le_refl _) _
  go_enter Try.func36, Try.ntmps36
  go_wp2_with fail
  go_at_call 74
  refine (vReport k i a s u c k2 7 8 d _ hi hk).mono ?_
  rintro e w' ⟨p, rfl, hown, hb⟩
  have HO := Lib.hid (own_base hown hb0.size)
  have HB := Lib.hid (hb0.trans (hb.mono hb0.size))
  obtain ⟨r, hr⟩ : ∃ r : Nat, r = vSub k2 7 8 := ⟨_, rfl⟩
  rw [← hr]
  have HR := Lib.hid hr
  clear hown hb hb0 hr
  go_wp2
  go_ret2
  rw [← HR.out]
  exact ⟨_, rfl, HO.out, HB.out⟩
end Go.Proofs.Ytmihhapedpalmaa
