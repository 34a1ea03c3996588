/- Layer 15: the document's own Right and Look. -/
import Derived.Test.YtkgeeohgfbacaaaCk
import Derived.Test.YtkgeeohgfbacaaaFlo3
namespace Go.Proofs.Ytkgeeohgfbacaaa
open Go.RowKit Go.Own
set_option linter.unusedVariables false
set_option linter.unusedSimpArgs false
set_option maxRecDepth 100000 in
set_option maxHeartbeats 1000000 in
theorem rRightD (k p l h : Int) (m n : Nat) (t : Bool) (w : World) (ht : (Df.mk k p l h m n).right = t) : Calls Try.prog 146 #[.agg #[.int .u8 k, .int .i64 p, .int .i32 l, .int .i32 h, .int .u32 ((m : Nat) : Int), .int .u32 ((n : Nat) : Int)]] w fun e w' => e = .returned (.bool t) ∧ Below w.heap.size w w' := by
  subst ht
  by_cases h1 : k ≤ 2
  · by_cases h2 : 0 ≤ p
    · by_cases h3 : p < 16
      · have e : (Df.mk k p l h m n).right = decide (l ≤ h) := by simp [Df.right, h1, h2, h3]
        rw [e]
        clear e
        go_enter Try.func146, Try.ntmps146
        go_wp2
        go_ret
        exact ⟨rfl, by repeat' (first | (with_reducible exact Below.refl _ _) | (with_reducible assumption) | (with_reducible refine Below.setCell ?_ ?_ _) | (with_reducible refine Below.alloc ?_ ?_ _) | (with_reducible refine Below.drew ?_) | (with_reducible refine Below.drawsN ?_ _) | go_size)⟩
      · have e : (Df.mk k p l h m n).right = false := by simp [Df.right, h3]
        rw [e]
        clear e
        have : 16 ≤ p := by omega
        clear h3
        go_enter Try.func146, Try.ntmps146
        go_wp2
        go_ret
        exact ⟨rfl, by repeat' (first | (with_reducible exact Below.refl _ _) | (with_reducible assumption) | (with_reducible refine Below.setCell ?_ ?_ _) | (with_reducible refine Below.alloc ?_ ?_ _) | (with_reducible refine Below.drew ?_) | (with_reducible refine Below.drawsN ?_ _) | go_size)⟩
    · have e : (Df.mk k p l h m n).right = false := by simp [Df.right, h2]
      rw [e]
      clear e
      have : p < 0 := by omega
      clear h2
      go_enter Try.func146, Try.ntmps146
      go_wp2
      go_ret
      exact ⟨rfl, by repeat' (first | (with_reducible exact Below.refl _ _) | (with_reducible assumption) | (with_reducible refine Below.setCell ?_ ?_ _) | (with_reducible refine Below.alloc ?_ ?_ _) | (with_reducible refine Below.drew ?_) | (with_reducible refine Below.drawsN ?_ _) | go_size)⟩
  · have e : (Df.mk k p l h m n).right = false := by simp [Df.right, h1]
    rw [e]
    clear e
    have : 3 ≤ k := by omega
    clear h1
    go_enter Try.func146, Try.ntmps146
    go_wp2
    go_ret
    exact ⟨rfl, by repeat' (first | (with_reducible exact Below.refl _ _) | (with_reducible assumption) | (with_reducible refine Below.setCell ?_ ?_ _) | (with_reducible refine Below.alloc ?_ ?_ _) | (with_reducible refine Below.drew ?_) | (with_reducible refine Below.drawsN ?_ _) | go_size)⟩
/-- What is below i says the same. -/
def bitsTo (a n m : Nat) (i : Nat) : Prop := ∀ j, j < i → m / 2 ^ j % 2 = 1 → a / 2 ^ j % 2 = n / 2 ^ j % 2
theorem tb (x i : Nat) : x.testBit i = decide (x / 2 ^ i % 2 = 1) := Nat.testBit_eq_decide_div_mod_eq
theorem bits_all {a n m : Nat} (hm : m < 4294967296) (h : bitsTo a n m 32) : a &&& m = n &&& m := by
  apply Nat.eq_of_testBit_eq
  intro i
  rw [Nat.testBit_and, Nat.testBit_and]
  by_cases hi : i < 32
  · cases hb : m.testBit i with
    | false => simp
    | true =>
      have h1 := h i hi (by rw [tb] at hb; exact of_decide_eq_true hb)
      rw [tb a, tb n, h1]
  · have : m.testBit i = false := Nat.testBit_lt_two_pow (Nat.lt_of_lt_of_le hm (Nat.pow_le_pow_right (n := 2) (by decide) (show 32 ≤ i by omega)))
    simp [this]
theorem bits_not {a n m i : Nat} (h1 : m / 2 ^ i % 2 = 1) (h2 : a / 2 ^ i % 2 ≠ n / 2 ^ i % 2) : a &&& m ≠ n &&& m := by
  intro h
  have := congrArg (fun x => x.testBit i) h
  simp only [Nat.testBit_and] at this
  rw [tb m, decide_eq_true h1, Bool.and_true, Bool.and_true, tb, tb] at this
  have h3 := Nat.mod_lt (a / 2 ^ i) (show 2 > 0 by decide)
  have h4 := Nat.mod_lt (n / 2 ^ i) (show 2 > 0 by decide)
  have h5 : (a / 2 ^ i % 2 = 1) ↔ (n / 2 ^ i % 2 = 1) := by simpa using this
  omega
theorem tmodb (x j : Nat) : ((x : Int) / 2 ^ j).tmod 2 = ((x / 2 ^ j % 2 : Nat) : Int) := by
  have e : (x : Int) / 2 ^ j = ((x / 2 ^ j : Nat) : Int) := by simp
  rw [e, Int.tmod_eq_emod_of_nonneg (Int.natCast_nonneg _)]
  rfl
theorem below_drews' {w w1 : World} (h : Below w.heap.size w w1) (q : Nat) : Below w.heap.size w (w1.drewN q) := h.trans ⟨rfl, rfl, rfl, Nat.le_refl _, fun _ _ => rfl⟩
end Go.Proofs.Ytkgeeohgfbacaaa
