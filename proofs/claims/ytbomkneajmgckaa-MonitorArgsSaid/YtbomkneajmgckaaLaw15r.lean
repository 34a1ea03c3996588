/- Layer 15: the document's own Right and Look. -/
import Derived.Test.YtbomkneajmgckaaCk
import Derived.Test.YtbomkneajmgckaaFlo3
namespace Go.Proofs.Ytbomkneajmgckaa
open Go.RowKit Go.Own
set_option linter.unusedVariables false
set_option linter.unusedSimpArgs false
set_option maxRecDepth 100000 in
set_option maxHeartbeats 1000000 in
theorem rRightD (k p l h : Int) (m n : Nat) (t : Bool) (w : World) (ht : (Df.mk k p l h m n).right = t) : Calls Try.prog 45 #[.agg #[.int .u8 k, .int .i64 p, .int .i32 l, .int .i32 h, .int .u32 ((m : Nat) : Int), .int .u32 ((n : Nat) : Int)]] w fun e w' => e = .returned (.bool t) ∧ Below w.heap.size w w' := by
  subst ht
  by_cases h1 : k ≤ 2
  · by_cases h2 : 0 ≤ p
    · by_cases h3 : p < 16
      · have e : (Df.mk k p l h m n).right = decide (l ≤ h) := by simp [Df.right, h1, h2, h3]
        rw [e]
        clear e
        go_enter Try.func45, Try.ntmps45
        go_wp2
        go_ret
        exact ⟨rfl, by repeat' (first | (with_reducible exact Below.refl _ _) | (with_reducible assumption) | (with_reducible refine Below.setCell ?_ ?_ _) | (with_reducible refine Below.alloc ?_ ?_ _) | (with_reducible refine Below.drew ?_) | (with_reducible refine Below.drawsN ?_ _) | go_size)⟩
      · have e : (Df.mk k p l h m n).right = false := by simp [Df.right, h3]
        rw [e]
        clear e
        have : 16 ≤ p := by omega
        clear h3
        go_enter Try.func45, Try.ntmps45
        go_wp2
        go_ret
        exact ⟨rfl, by repeat' (first | (with_reducible exact Below.refl _ _) | (with_reducible assumption) | (with_reducible refine Below.setCell ?_ ?_ _) | (with_reducible refine Below.alloc ?_ ?_ _) | (with_reducible refine Below.drew ?_) | (with_reducible refine Below.drawsN ?_ _) | go_size)⟩
    · have e : (Df.mk k p l h m n).right = false := by simp [Df.right, h2]
      rw [e]
      clear e
      have : p < 0 := by omega
      clear h2
      go_enter Try.func45, Try.ntmps45
      go_wp2
      go_ret
      exact ⟨rfl, by repeat' (first | (with_reducible exact Below.refl _ _) | (with_reducible assumption) | (with_reducible refine Below.setCell ?_ ?_ _) | (with_reducible refine Below.alloc ?_ ?_ _) | (with_reducible refine Below.drew ?_) | (with_reducible refine Below.drawsN ?_ _) | go_size)⟩
  · have e : (Df.mk k p l h m n).right = false := by simp [Df.right, h1]
    rw [e]
    clear e
    have : 3 ≤ k := by omega
    clear h1
    go_enter Try.func45, Try.ntmps45
    go_wp2
    go_ret
    exact ⟨rfl, by repeat' (first | (with_reducible exact Below.refl _ _) | (with_reducible assumption) | (with_reducible refine Below.setCell ?_ ?_ _) | (with_reducible refine Below.alloc ?_ ?_ _) | (with_reducible refine Below.drew ?_) | (with_reducible refine Below.drawsN ?_ _) | go_size)⟩
/-- What is below i says the same. -/
def bitsTo (a n m : Nat) (i : Nat) : Prop := ∀ j, j < i → m / 2 ^ j % 2 = 1 → a / 2 ^ j % 2 = n / 2 ^ j % 2
theorem tb (x i : Nat) : x.testBit i = decide (x / 2 ^ i % 2 = 1) := Nat.testBit_eq_decide_div_mod_eq
theorem bits_all {a n m : Nat} (hm : m < 4294967296) (h : bitsTo a n m 32) : a &&& m = n &&& m := by
  apply Nat.eq_of_testBit_eq
  intro i
  rw [Nat.testBit_and, Nat.testBit_and]
  by_cases hi : i < 32
  · cases hb : m.testBit i with
    | false => simp
    | true =>
      have h1 := h i hi (by rw [tb] at hb; exact of_decide_eq_true hb)
      rw [tb a, tb n, h1]
  · have : m.testBit i = false := Nat.testBit_lt_two_pow (Nat.lt_of_lt_of_le hm (Nat.pow_le_pow_right (n := 2) (by decide) (show 32 ≤ i by omega)))
    simp [this]
theorem bits_not {a n m i : Nat} (h1 : m / 2 ^ i % 2 = 1) (h2 : a / 2 ^ i % 2 ≠ n / 2 ^ i % 2) : a &&& m ≠ n &&& m := by
  intro h
  have := congrArg (fun x => x.testBit i) h
  simp only [Nat.testBit_and] at this
  rw [tb m, decide_eq_true h1, Bool.and_true, Bool.and_true, tb, tb] at this
  have h3 := Nat.mod_lt (a / 2 ^ i) (show 2 > 0 by decide)
  have h4 := Nat.mod_lt (n / 2 ^ i) (show 2 > 0 by decide)
  have h5 : (a / 2 ^ i % 2 = 1) ↔ (n / 2 ^ i % 2 = 1) := by simpa using this
  omega
theorem tmodb (x j : Nat) : ((x : Int) / 2 ^ j).tmod 2 = ((x / 2 ^ j % 2 : Nat) : Int) := by
  have e : (x : Int) / 2 ^ j = ((x / 2 ^ j : Nat) : Int) := by simp
  rw [e, Int.tmod_eq_emod_of_nonneg (Int.natCast_nonneg _)]
  rfl
theorem below_drews' {w w1 : World} (h : Below w.heap.size w w1) (q : Nat) : Below w.heap.size w (w1.drewN q) := h.trans ⟨rfl, rfl, rfl, Nat.le_refl _, fun _ _ => rfl⟩
set_option maxRecDepth 100000 in
set_option maxHeartbeats 4000000 in
theorem rLook_at (k p l h : Int) (m n : Nat) (now before : Int) (first : Bool) (v : Int) (w : World) (hok : (Df.mk k p l h m n).ok) (n0 : -2147483648 ≤ now) (n1 : now ≤ 2147483647) (b0 : -2147483648 ≤ before) (b1 : before ≤ 2147483647) (hv : (Df.mk k p l h m n).look now before first = v) :
    Calls Try.prog 47 #[.agg #[.int .u8 k, .int .i64 p, .int .i32 l, .int .i32 h, .int .u32 ((m : Nat) : Int), .int .u32 ((n : Nat) : Int)], .int .i32 now, .int .i32 before, .bool first] w fun e w' => e = .returned (.int .i64 v) ∧ Below w.heap.size w w' := by
  cases hr : (Df.mk k p l h m n).right
  · have hv0 : v = 0 := by rw [← hv, Df.look, if_pos (.inl hr)]
    subst hv0
    have HR := Lib.hid hr
    clear hr hv
    skip
    have hb0 : Below w.heap.size w (w.alloc (.cells #[.int .u8 k, .int .i64 p, .int .i32 l, .int .i32 h, .int .u32 ((m : Nat) : Int), .int .u32 ((n : Nat) : Int)] 93)) := (Below.refl _ _).alloc (Nat.le_refl _) _
    have g0 := heap_alloc_new w (.cells #[.int .u8 k, .int .i64 p, .int .i32 l, .int .i32 h, .int .u32 ((m : Nat) : Int), .int .u32 ((n : Nat) : Int)] 93)
    go_enter Try.func47, Try.ntmps47
    go_wp2_with fail
    obtain ⟨g, hg⟩ : ∃ g, g = w.heap.size := ⟨_, rfl⟩
    obtain ⟨wa, hwa⟩ : ∃ wa, wa = w.alloc (.cells #[.int .u8 k, .int .i64 p, .int .i32 l, .int .i32 h, .int .u32 ((m : Nat) : Int), .int .u32 ((n : Nat) : Int)] 93) := ⟨_, rfl⟩
    rw [← hwa] at hb0 g0 ⊢
    rw [← hg] at g0 ⊢
    clear hwa hg
    go_at_call 45
    refine (rRightD k p l h m n _ _ HR.out).mono ?_
    rintro e w1 ⟨rfl, hb⟩
    have g1 := box_below g0 hb (box_lt g0)
    have hb1 := hb0.trans (hb.mono hb0.size)
    have c0 := cell_of_row _ _ 0 _ _ _ g1
    have c2 := cell_of_row _ _ 2 _ _ _ g1
    have c3 := cell_of_row _ _ 3 _ _ _ g1
    have c4 := cell_of_row _ _ 4 _ _ _ g1
    have c5 := cell_of_row _ _ 5 _ _ _ g1
    clear g0 hb hb0
    go_wp2
    go_ret
    exact ⟨rfl, hb1⟩
  have HR := Lib.hid hr
  have hl := hok.l0
  have hl1 := hok.l1
  have hh := hok.h0
  have hh1 := hok.h1
  have hm1 := hok.m1
  have hn1 := hok.n1
  simp only at hl hl1 hh hh1 hm1 hn1
  by_cases hk2 : k = 2
  · subst hk2
    cases first
    · have hv1 : limOf l h (now - before) = v := by rw [← hv, Df.look, if_neg (by rw [hr]; simp)]; rfl
      unfold limOf at hv1
      clear hr hv
      by_cases q1 : now - before < l
      · rw [if_pos q1] at hv1
        subst hv1
        skip
        have hb0 : Below w.heap.size w (w.alloc (.cells #[.int .u8 2, .int .i64 p, .int .i32 l, .int .i32 h, .int .u32 ((m : Nat) : Int), .int .u32 ((n : Nat) : Int)] 93)) := (Below.refl _ _).alloc (Nat.le_refl _) _
        have g0 := heap_alloc_new w (.cells #[.int .u8 2, .int .i64 p, .int .i32 l, .int .i32 h, .int .u32 ((m : Nat) : Int), .int .u32 ((n : Nat) : Int)] 93)
        go_enter Try.func47, Try.ntmps47
        go_wp2_with fail
        obtain ⟨g, hg⟩ : ∃ g, g = w.heap.size := ⟨_, rfl⟩
        obtain ⟨wa, hwa⟩ : ∃ wa, wa = w.alloc (.cells #[.int .u8 2, .int .i64 p, .int .i32 l, .int .i32 h, .int .u32 ((m : Nat) : Int), .int .u32 ((n : Nat) : Int)] 93) := ⟨_, rfl⟩
        rw [← hwa] at hb0 g0 ⊢
        rw [← hg] at g0 ⊢
        clear hwa hg
        go_at_call 45
        refine (rRightD 2 p l h m n _ _ HR.out).mono ?_
        rintro e w1 ⟨rfl, hb⟩
        have g1 := box_below g0 hb (box_lt g0)
        have hb1 := hb0.trans (hb.mono hb0.size)
        have c0 := cell_of_row _ _ 0 _ _ _ g1
        have c2 := cell_of_row _ _ 2 _ _ _ g1
        have c3 := cell_of_row _ _ 3 _ _ _ g1
        have c4 := cell_of_row _ _ 4 _ _ _ g1
        have c5 := cell_of_row _ _ 5 _ _ _ g1
        clear g0 hb hb0
        go_wp2
        go_ret
        exact ⟨rfl, hb1⟩
      by_cases q2 : h < now - before
      · rw [if_neg q1, if_pos q2] at hv1
        subst hv1
        have : l ≤ now - before := by omega
        clear q1
        skip
        have hb0 : Below w.heap.size w (w.alloc (.cells #[.int .u8 2, .int .i64 p, .int .i32 l, .int .i32 h, .int .u32 ((m : Nat) : Int), .int .u32 ((n : Nat) : Int)] 93)) := (Below.refl _ _).alloc (Nat.le_refl _) _
        have g0 := heap_alloc_new w (.cells #[.int .u8 2, .int .i64 p, .int .i32 l, .int .i32 h, .int .u32 ((m : Nat) : Int), .int .u32 ((n : Nat) : Int)] 93)
        go_enter Try.func47, Try.ntmps47
        go_wp2_with fail
        obtain ⟨g, hg⟩ : ∃ g, g = w.heap.size := ⟨_, rfl⟩
        obtain ⟨wa, hwa⟩ : ∃ wa, wa = w.alloc (.cells #[.int .u8 2, .int .i64 p, .int .i32 l, .int .i32 h, .int .u32 ((m : Nat) : Int), .int .u32 ((n : Nat) : Int)] 93) := ⟨_, rfl⟩
        rw [← hwa] at hb0 g0 ⊢
        rw [← hg] at g0 ⊢
        clear hwa hg
        go_at_call 45
        refine (rRightD 2 p l h m n _ _ HR.out).mono ?_
        rintro e w1 ⟨rfl, hb⟩
        have g1 := box_below g0 hb (box_lt g0)
        have hb1 := hb0.trans (hb.mono hb0.size)
        have c0 := cell_of_row _ _ 0 _ _ _ g1
        have c2 := cell_of_row _ _ 2 _ _ _ g1
        have c3 := cell_of_row _ _ 3 _ _ _ g1
        have c4 := cell_of_row _ _ 4 _ _ _ g1
        have c5 := cell_of_row _ _ 5 _ _ _ g1
        clear g0 hb hb0
        go_wp2
        go_ret
        exact ⟨rfl, hb1⟩
      · rw [if_neg q1, if_neg q2] at hv1
        subst hv1
        have : l ≤ now - before := by omega
        have : now - before ≤ h := by omega
        clear q1 q2
        skip
        have hb0 : Below w.heap.size w (w.alloc (.cells #[.int .u8 2, .int .i64 p, .int .i32 l, .int .i32 h, .int .u32 ((m : Nat) : Int), .int .u32 ((n : Nat) : Int)] 93)) := (Below.refl _ _).alloc (Nat.le_refl _) _
        have g0 := heap_alloc_new w (.cells #[.int .u8 2, .int .i64 p, .int .i32 l, .int .i32 h, .int .u32 ((m : Nat) : Int), .int .u32 ((n : Nat) : Int)] 93)
        go_enter Try.func47, Try.ntmps47
        go_wp2_with fail
        obtain ⟨g, hg⟩ : ∃ g, g = w.heap.size := ⟨_, rfl⟩
        obtain ⟨wa, hwa⟩ : ∃ wa, wa = w.alloc (.cells #[.int .u8 2, .int .i64 p, .int .i32 l, .int .i32 h, .int .u32 ((m : Nat) : Int), .int .u32 ((n : Nat) : Int)] 93) := ⟨_, rfl⟩
        rw [← hwa] at hb0 g0 ⊢
        rw [← hg] at g0 ⊢
        clear hwa hg
        go_at_call 45
        refine (rRightD 2 p l h m n _ _ HR.out).mono ?_
        rintro e w1 ⟨rfl, hb⟩
        have g1 := box_below g0 hb (box_lt g0)
        have hb1 := hb0.trans (hb.mono hb0.size)
        have c0 := cell_of_row _ _ 0 _ _ _ g1
        have c2 := cell_of_row _ _ 2 _ _ _ g1
        have c3 := cell_of_row _ _ 3 _ _ _ g1
        have c4 := cell_of_row _ _ 4 _ _ _ g1
        have c5 := cell_of_row _ _ 5 _ _ _ g1
        clear g0 hb hb0
        go_wp2
        go_ret
        exact ⟨rfl, hb1⟩
    · have hv0 : v = 0 := by rw [← hv, Df.look, if_pos (.inr ⟨rfl, rfl⟩)]
      subst hv0
      clear hr hv
      skip
      have hb0 : Below w.heap.size w (w.alloc (.cells #[.int .u8 2, .int .i64 p, .int .i32 l, .int .i32 h, .int .u32 ((m : Nat) : Int), .int .u32 ((n : Nat) : Int)] 93)) := (Below.refl _ _).alloc (Nat.le_refl _) _
      have g0 := heap_alloc_new w (.cells #[.int .u8 2, .int .i64 p, .int .i32 l, .int .i32 h, .int .u32 ((m : Nat) : Int), .int .u32 ((n : Nat) : Int)] 93)
      go_enter Try.func47, Try.ntmps47
      go_wp2_with fail
      obtain ⟨g, hg⟩ : ∃ g, g = w.heap.size := ⟨_, rfl⟩
      obtain ⟨wa, hwa⟩ : ∃ wa, wa = w.alloc (.cells #[.int .u8 2, .int .i64 p, .int .i32 l, .int .i32 h, .int .u32 ((m : Nat) : Int), .int .u32 ((n : Nat) : Int)] 93) := ⟨_, rfl⟩
      rw [← hwa] at hb0 g0 ⊢
      rw [← hg] at g0 ⊢
      clear hwa hg
      go_at_call 45
      refine (rRightD 2 p l h m n _ _ HR.out).mono ?_
      rintro e w1 ⟨rfl, hb⟩
      have g1 := box_below g0 hb (box_lt g0)
      have hb1 := hb0.trans (hb.mono hb0.size)
      have c0 := cell_of_row _ _ 0 _ _ _ g1
      have c2 := cell_of_row _ _ 2 _ _ _ g1
      have c3 := cell_of_row _ _ 3 _ _ _ g1
      have c4 := cell_of_row _ _ 4 _ _ _ g1
      have c5 := cell_of_row _ _ 5 _ _ _ g1
      clear g0 hb hb0
      go_wp2
      go_ret
      exact ⟨rfl, hb1⟩
  by_cases hk1 : k = 1
  · subst hk1
    have hv1 : expOf m n (u32 now) = v := by rw [← hv, Df.look, if_neg (by rw [hr]; simp), if_pos rfl]
    have hu := u32_int now
    have hul := u32_lt now
    obtain ⟨a, ha⟩ : ∃ a, a = u32 now := ⟨_, rfl⟩
    rw [← ha] at hu hul hv1
    have HV := Lib.hid hv1
    clear hr hv hv1 ha hk2
    skip
    have hb0 : Below w.heap.size w (w.alloc (.cells #[.int .u8 1, .int .i64 p, .int .i32 l, .int .i32 h, .int .u32 ((m : Nat) : Int), .int .u32 ((n : Nat) : Int)] 93)) := (Below.refl _ _).alloc (Nat.le_refl _) _
    have g0 := heap_alloc_new w (.cells #[.int .u8 1, .int .i64 p, .int .i32 l, .int .i32 h, .int .u32 ((m : Nat) : Int), .int .u32 ((n : Nat) : Int)] 93)
    go_enter Try.func47, Try.ntmps47
    go_wp2_with fail
    obtain ⟨g, hg⟩ : ∃ g, g = w.heap.size := ⟨_, rfl⟩
    obtain ⟨wa, hwa⟩ : ∃ wa, wa = w.alloc (.cells #[.int .u8 1, .int .i64 p, .int .i32 l, .int .i32 h, .int .u32 ((m : Nat) : Int), .int .u32 ((n : Nat) : Int)] 93) := ⟨_, rfl⟩
    rw [← hwa] at hb0 g0 ⊢
    rw [← hg] at g0 ⊢
    clear hwa hg
    go_at_call 45
    refine (rRightD 1 p l h m n _ _ HR.out).mono ?_
    rintro e w1 ⟨rfl, hb⟩
    have g1 := box_below g0 hb (box_lt g0)
    have hb1 := hb0.trans (hb.mono hb0.size)
    have c0 := cell_of_row _ _ 0 _ _ _ g1
    have c2 := cell_of_row _ _ 2 _ _ _ g1
    have c3 := cell_of_row _ _ 3 _ _ _ g1
    have c4 := cell_of_row _ _ 4 _ _ _ g1
    have c5 := cell_of_row _ _ 5 _ _ _ g1
    clear g0 hb hb0
    go_wp2_with fail
    go_quiet (fail)
    go_wp2
    clear c0 c2 c3 c5
    go_loopw [11] (fun i wr => ∃ j : Nat, j ≤ 32 ∧ i = .int .i64 (j : Nat) ∧ bitsTo a n m j ∧ ∃ q, wr = w1.drewN q) (fun i _ => 32 - (intOf i).toNat)
    case atStart => exact ⟨0, by omega, rfl, fun j hj => absurd hj (by omega), _, rfl⟩
    case round =>
      obtain ⟨j, hj, rfl, hbt, q, rfl⟩ := hrel
      have HBT := Lib.hid hbt
      clear hbt
      by_cases hlt : j < 32
      · have h2m := tmodb m j
        have h2a := tmodb a j
        have h2n := tmodb n j
        have HJ := Lib.hid (show (if m / 2 ^ j % 2 = 1 ∧ a / 2 ^ j % 2 ≠ n / 2 ^ j % 2 then expOf m n a = 4 else bitsTo a n m (j + 1)) by
          split
          · rename_i hh
            rw [expOf, if_neg (bits_not hh.1 hh.2)]
          · rename_i hh
            intro i hi hb
            by_cases e : i = j
            · subst e
              exact Classical.byContradiction fun hne => hh ⟨hb, hne⟩
            · exact HBT.out i (by omega) hb)
        have b1 : m / 2 ^ j % 2 = 0 ∨ m / 2 ^ j % 2 = 1 := by omega
        have b2 : a / 2 ^ j % 2 = 0 ∨ a / 2 ^ j % 2 = 1 := by omega
        have b3 : n / 2 ^ j % 2 = 0 ∨ n / 2 ^ j % 2 = 1 := by omega
        rcases b1 with b1 | b1
        · rw [b1, if_neg (by omega)] at HJ
          rw [b1] at h2m
          clear b1 b2 b3 h2a h2n
          go_wp2
          go_quiet (fail)
          all_goals
            go_wp2
            go_roundw
            case rel => exact ⟨j + 1, by omega, by go_num, HJ.out, _, rfl⟩
            case measure => simp [intOf]; omega
        rcases b2 with b2 | b2 <;> rcases b3 with b3 | b3 <;> rw [b1, b2, b3] at HJ <;> rw [b1] at h2m <;> rw [b2] at h2a <;> rw [b3] at h2n <;> clear b1 b2 b3
        · rw [if_neg (by omega)] at HJ
          go_wp2
          go_quiet (fail)
          all_goals
            go_wp2
            go_roundw
            case rel => exact ⟨j + 1, by omega, by go_num, HJ.out, _, rfl⟩
            case measure => simp [intOf]; omega
        · rw [if_pos (by omega)] at HJ
          go_wp2
          go_quiet (fail)
          all_goals
            go_wp2
            go_ret
            exact ⟨by rw [← HV.out, HJ.out]; rfl, below_drews' (below_drews' hb1 _) _⟩
        · rw [if_pos (by omega)] at HJ
          go_wp2
          go_quiet (fail)
          all_goals
            go_wp2
            go_ret
            exact ⟨by rw [← HV.out, HJ.out]; rfl, below_drews' (below_drews' hb1 _) _⟩
        · rw [if_neg (by omega)] at HJ
          go_wp2
          go_quiet (fail)
          all_goals
            go_wp2
            go_roundw
            case rel => exact ⟨j + 1, by omega, by go_num, HJ.out, _, rfl⟩
            case measure => simp [intOf]; omega
      · obtain rfl : j = 32 := by omega
        have hv1 : v = 1 := by
          have := HV.out
          rw [expOf, if_pos (bits_all hm1 HBT.out)] at this
          exact this.symm
        subst hv1
        go_wp2
        go_ret
        exact ⟨rfl, below_drews' hb1 _⟩
  · have hv1 : limOf l h now = v := by rw [← hv, Df.look, if_neg (by rw [hr]; simp [hk2]), if_neg hk1, if_neg hk2]
    have e1 : (k == 1) = false := by simp [hk1]
    have e2 : (k == 2) = false := by simp [hk2]
    unfold limOf at hv1
    clear hr hv hk2 hk1
    by_cases q1 : now < l
    · rw [if_pos q1] at hv1
      subst hv1
      skip
      have hb0 : Below w.heap.size w (w.alloc (.cells #[.int .u8 k, .int .i64 p, .int .i32 l, .int .i32 h, .int .u32 ((m : Nat) : Int), .int .u32 ((n : Nat) : Int)] 93)) := (Below.refl _ _).alloc (Nat.le_refl _) _
      have g0 := heap_alloc_new w (.cells #[.int .u8 k, .int .i64 p, .int .i32 l, .int .i32 h, .int .u32 ((m : Nat) : Int), .int .u32 ((n : Nat) : Int)] 93)
      go_enter Try.func47, Try.ntmps47
      go_wp2_with fail
      obtain ⟨g, hg⟩ : ∃ g, g = w.heap.size := ⟨_, rfl⟩
      obtain ⟨wa, hwa⟩ : ∃ wa, wa = w.alloc (.cells #[.int .u8 k, .int .i64 p, .int .i32 l, .int .i32 h, .int .u32 ((m : Nat) : Int), .int .u32 ((n : Nat) : Int)] 93) := ⟨_, rfl⟩
      rw [← hwa] at hb0 g0 ⊢
      rw [← hg] at g0 ⊢
      clear hwa hg
      go_at_call 45
      refine (rRightD k p l h m n _ _ HR.out).mono ?_
      rintro e w1 ⟨rfl, hb⟩
      have g1 := box_below g0 hb (box_lt g0)
      have hb1 := hb0.trans (hb.mono hb0.size)
      have c0 := cell_of_row _ _ 0 _ _ _ g1
      have c2 := cell_of_row _ _ 2 _ _ _ g1
      have c3 := cell_of_row _ _ 3 _ _ _ g1
      have c4 := cell_of_row _ _ 4 _ _ _ g1
      have c5 := cell_of_row _ _ 5 _ _ _ g1
      clear g0 hb hb0
      go_wp2
      go_ret
      exact ⟨rfl, hb1⟩
    by_cases q2 : h < now
    · rw [if_neg q1, if_pos q2] at hv1
      subst hv1
      have : l ≤ now := by omega
      clear q1
      skip
      have hb0 : Below w.heap.size w (w.alloc (.cells #[.int .u8 k, .int .i64 p, .int .i32 l, .int .i32 h, .int .u32 ((m : Nat) : Int), .int .u32 ((n : Nat) : Int)] 93)) := (Below.refl _ _).alloc (Nat.le_refl _) _
      have g0 := heap_alloc_new w (.cells #[.int .u8 k, .int .i64 p, .int .i32 l, .int .i32 h, .int .u32 ((m : Nat) : Int), .int .u32 ((n : Nat) : Int)] 93)
      go_enter Try.func47, Try.ntmps47
      go_wp2_with fail
      obtain ⟨g, hg⟩ : ∃ g, g = w.heap.size := ⟨_, rfl⟩
      obtain ⟨wa, hwa⟩ : ∃ wa, wa = w.alloc (.cells #[.int .u8 k, .int .i64 p, .int .i32 l, .int .i32 h, .int .u32 ((m : Nat) : Int), .int .u32 ((n : Nat) : Int)] 93) := ⟨_, rfl⟩
      rw [← hwa] at hb0 g0 ⊢
      rw [← hg] at g0 ⊢
      clear hwa hg
      go_at_call 45
      refine (rRightD k p l h m n _ _ HR.out).mono ?_
      rintro e w1 ⟨rfl, hb⟩
      have g1 := box_below g0 hb (box_lt g0)
      have hb1 := hb0.trans (hb.mono hb0.size)
      have c0 := cell_of_row _ _ 0 _ _ _ g1
      have c2 := cell_of_row _ _ 2 _ _ _ g1
      have c3 := cell_of_row _ _ 3 _ _ _ g1
      have c4 := cell_of_row _ _ 4 _ _ _ g1
      have c5 := cell_of_row _ _ 5 _ _ _ g1
      clear g0 hb hb0
      go_wp2
      go_ret
      exact ⟨rfl, hb1⟩
    · rw [if_neg q1, if_neg q2] at hv1
      subst hv1
      have : l ≤ now := by omega
      have : now ≤ h := by omega
      clear q1 q2
      skip
      have hb0 : Below w.heap.size w (w.alloc (.cells #[.int .u8 k, .int .i64 p, .int .i32 l, .int .i32 h, .int .u32 ((m : Nat) : Int), .int .u32 ((n : Nat) : Int)] 93)) := (Below.refl _ _).alloc (Nat.le_refl _) _
      have g0 := heap_alloc_new w (.cells #[.int .u8 k, .int .i64 p, .int .i32 l, .int .i32 h, .int .u32 ((m : Nat) : Int), .int .u32 ((n : Nat) : Int)] 93)
      go_enter Try.func47, Try.ntmps47
      go_wp2_with fail
      obtain ⟨g, hg⟩ : ∃ g, g = w.heap.size := ⟨_, rfl⟩
      obtain ⟨wa, hwa⟩ : ∃ wa, wa = w.alloc (.cells #[.int .u8 k, .int .i64 p, .int .i32 l, .int .i32 h, .int .u32 ((m : Nat) : Int), .int .u32 ((n : Nat) : Int)] 93) := ⟨_, rfl⟩
      rw [← hwa] at hb0 g0 ⊢
      rw [← hg] at g0 ⊢
      clear hwa hg
      go_at_call 45
      refine (rRightD k p l h m n _ _ HR.out).mono ?_
      rintro e w1 ⟨rfl, hb⟩
      have g1 := box_below g0 hb (box_lt g0)
      have hb1 := hb0.trans (hb.mono hb0.size)
      have c0 := cell_of_row _ _ 0 _ _ _ g1
      have c2 := cell_of_row _ _ 2 _ _ _ g1
      have c3 := cell_of_row _ _ 3 _ _ _ g1
      have c4 := cell_of_row _ _ 4 _ _ _ g1
      have c5 := cell_of_row _ _ 5 _ _ _ g1
      clear g0 hb hb0
      go_wp2
      go_ret
      exact ⟨rfl, hb1⟩
end Go.Proofs.Ytbomkneajmgckaa
