/- SteerTells: what stands without a walk. -/
import Derived.Test.YtinaimacocgemaaDoorLaw23v
namespace Go.Proofs.YtinaimacocgemaaDoor
open Go.RowKit Go.Own Bs
set_option linter.unusedVariables false
set_option linter.unusedSimpArgs false
theorem mag_satT (v : Int) (h0 : -2147483648 ≤ v) (h1 : v ≤ 2147483647) : Fx.sat (max v (-v)) = mag v := by
  unfold mag Fx.sat; split <;> (try split) <;> (try split) <;> omega
theorem mag_nnT (v : Int) (h0 : -2147483648 ≤ v) (h1 : v ≤ 2147483647) : 0 ≤ mag v ∧ mag v ≤ 2147483647 := by
  unfold mag Fx.sat; split <;> (try split) <;> omega
theorem sgnT (v D : Int) (hD : 0 ≤ D) : (D < v ∧ ¬ v < -D ∧ sgn v D = 1) ∨ (¬ D < v ∧ v < -D ∧ sgn v D = -1) ∨ (¬ D < v ∧ ¬ v < -D ∧ sgn v D = 0) := by
  unfold sgn
  by_cases h1 : D < v
  · left; exact ⟨h1, by omega, by rw [if_pos h1]⟩
  · by_cases h2 : v < -D
    · right; left; exact ⟨h1, h2, by rw [if_neg h1, if_pos h2]⟩
    · right; right; exact ⟨h1, h2, by rw [if_neg h1, if_neg h2]⟩
/-- Calm, over the components ahead of k. -/
def cb (a : Nat → Int) (m : Int) : Nat → Bool
  | 0 => true
  | k + 1 => cb a m k && decide (mag (a k) ≤ m)
theorem cb_all (a : Nat → Int) (m : Int) : cb a m 3 = decide (nmF a ≤ m) := by
  unfold nmF
  simp only [cb, Bool.true_and]
  generalize mag (a 0) = x
  generalize mag (a 1) = y
  generalize mag (a 2) = z
  rw [← Bool.decide_and, ← Bool.decide_and]
  exact decide_eq_decide.mpr (by omega)
/-- The sum's component k behind n commands. -/
def sq (c : Nat → Int) (k : Nat) : Nat → Int
  | 0 => 0
  | n + 1 => sq c k n + mkF c n k
theorem mk_bd (c : Nat → Int) (n k : Nat) : -2147483648 ≤ mkF c n k ∧ mkF c n k ≤ 2147483647 := ⟨Fx.sat_lo _, Fx.sat_hi _⟩
theorem sq_bd (c : Nat → Int) (k n : Nat) : -(2147483648 * (n : Int)) ≤ sq c k n ∧ sq c k n ≤ 2147483648 * (n : Int) := by
  induction n with
  | zero => exact ⟨by simp [sq], by simp [sq]⟩
  | succ n ih => have := mk_bd c n k; simp only [sq]; push_cast; omega
theorem sq_jn (c : Nat → Int) (k : Nat) : jnF c k = Fx.sat (sq c k 4) := by
  unfold jnF
  simp only [sq, Int.zero_add]
theorem mk_sat (c : Nat → Int) (n k : Nat) : mkF c n k = Fx.sat (wa n k * c n) := by unfold mkF; rw [pw0H, Int.ediv_one]
def smT (c : Nat → Int) (k n j : Nat) : Int := if j < k then sq c j 4 else if j = k then sq c k n else 0
theorem smT_set (c : Nat → Int) {k : Nat} (n : Nat) (hk : k < 3) : (#[.int .i64 (smT c k n 0), .int .i64 (smT c k n 1), .int .i64 (smT c k n 2)] : Array Value).setIfInBounds k (.int .i64 (sq c k (n + 1))) = #[.int .i64 (smT c k (n + 1) 0), .int .i64 (smT c k (n + 1) 1), .int .i64 (smT c k (n + 1) 2)] := by
  rcases (by omega : k = 0 ∨ k = 1 ∨ k = 2) with rfl | rfl | rfl <;> rfl
theorem smT_next (c : Nat → Int) {k : Nat} (hk : k < 3) : (#[.int .i64 (smT c k 4 0), .int .i64 (smT c k 4 1), .int .i64 (smT c k 4 2)] : Array Value) = #[.int .i64 (smT c (k + 1) 0 0), .int .i64 (smT c (k + 1) 0 1), .int .i64 (smT c (k + 1) 0 2)] := by
  rcases (by omega : k = 0 ∨ k = 1 ∨ k = 2) with rfl | rfl | rfl <;> rfl
theorem sx_at (a : Nat → Int) {k : Nat} (hk : k < 3) : (#[.int .i64 (a 0), .int .i64 (a 1), .int .i64 (a 2)] : Array Value)[k]? = some (.int .i64 (a k)) := by
  rcases (by omega : k = 0 ∨ k = 1 ∨ k = 2) with rfl | rfl | rfl <;> rfl
theorem s_index (c : Nat → Int) {k : Nat} (hk : k < 3) (w : World) : (Instr.index 34 (.agg #[.int .i64 (c 0), .int .i64 (c 1), .int .i64 (c 2)]) (.int .i64 (k : Nat))).run Tryd.prog w = .ok (.int .i64 (c k)) w := by
  rcases (by omega : k = 0 ∨ k = 1 ∨ k = 2) with rfl | rfl | rfl
  · exact six0 _ _ _ _
  · exact six1 _ _ _ _
  · exact six2 _ _ _ _
theorem smT_at (c : Nat → Int) (k n : Nat) : smT c k n k = sq c k n := by unfold smT; rw [if_neg (by omega), if_pos rfl]
theorem smT_end (c : Nat → Int) {j : Nat} (hj : j < 3) : smT c 3 0 j = sq c j 4 := by unfold smT; rw [if_pos hj]
theorem sq_nnT (x : Int) : 0 ≤ x * x := by
  rcases Int.le_total 0 x with h | h
  · exact Int.mul_nonneg h h
  · have := Int.mul_nonneg (show 0 ≤ -x by omega) (show 0 ≤ -x by omega)
    rwa [Int.neg_mul_neg] at this
theorem seen_eq (d l : Int) (hd : 0 ≤ d) (hl : l ≤ 2147483647) : decide (l ≤ ((Fx.root d : Nat) : Int)) = (decide (l ≤ 0) || decide (l * l ≤ d)) := by
  obtain ⟨h1, h2, h3⟩ := Fx.root_ok d hd
  generalize Fx.root d = r at h1 h2 h3 ⊢
  rw [← Bool.decide_or]
  refine decide_eq_decide.mpr ⟨fun h => ?_, fun h => ?_⟩
  · by_cases h0 : l ≤ 0
    · exact .inl h0
    · exact .inr (Int.le_trans (Int.mul_le_mul h h (by omega) (by omega)) h2)
  · rcases h with h | h
    · omega
    · rcases h3 with h3 | h3
      · omega
      · by_cases h4 : l ≤ (r : Int)
        · exact h4
        · have h5 : (r : Int) + 1 ≤ l := by omega
          have := Int.mul_le_mul h5 h5 (by omega) (by omega)
          omega
theorem sums_nn (x y z : Int) : 0 ≤ Fx.sums [x * x, y * y, z * z] := by
  have h0 := sq_nnT x
  have h1 := sq_nnT y
  have h2 := sq_nnT z
  simp only [Fx.sums, List.foldl]
  have s : ∀ v : Int, 0 ≤ v → 0 ≤ Fx.sat64 v := fun v h => by unfold Fx.sat64; split <;> (try split) <;> omega
  exact s _ (by have := s _ (by have := s (0 + x * x) (by omega); omega : 0 ≤ Fx.sat64 (0 + x * x) + y * y); omega)
theorem list4 {z : List Int} (h : z.length = 4) (w : ∀ x ∈ z, (Lit.int .i32 x).wf = true) : ∃ c : Nat → Int, In4 c ∧ (z.map (Value.int .i32)).toArray = #[.int .i32 (c 0), .int .i32 (c 1), .int .i32 (c 2), .int .i32 (c 3)] := by
  match z, h with
  | [p, q, r, s], _ =>
    refine ⟨fun k => match k with | 0 => p | 1 => q | 2 => r | _ => s, fun k hk => ?_, rfl⟩
    have b0 := bounds_i32 (w p (by simp))
    have b1 := bounds_i32 (w q (by simp))
    have b2 := bounds_i32 (w r (by simp))
    have b3 := bounds_i32 (w s (by simp))
    rcases (by omega : k = 0 ∨ k = 1 ∨ k = 2 ∨ k = 3) with rfl | rfl | rfl | rfl
    · exact b0
    · exact b1
    · exact b2
    · exact b3
end Go.Proofs.YtinaimacocgemaaDoor
