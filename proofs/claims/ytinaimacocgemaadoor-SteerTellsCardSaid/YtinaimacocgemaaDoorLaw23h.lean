/- SteerShares. -/
import Derived.Test.YtinaimacocgemaaDoorSd3
import Derived.Test.YtinaimacocgemaaDoorFrame
namespace Go.Proofs.YtinaimacocgemaaDoor
open Go.RowKit Go.Own Bs
set_option linter.unusedVariables false
set_option linter.unusedSimpArgs false
theorem q_index (c : Nat → Int) {k : Nat} (hk : k < 4) (w : World) : (Instr.index 27 (.agg #[.int .i32 (c 0), .int .i32 (c 1), .int .i32 (c 2), .int .i32 (c 3)]) (.int .i64 (k : Nat))).run Tryd.prog w = .ok (.int .i32 (c k)) w := by
  rcases (by omega : k = 0 ∨ k = 1 ∨ k = 2 ∨ k = 3) with rfl | rfl | rfl | rfl
  · exact qix0 _ _ _ _ _
  · exact qix1 _ _ _ _ _
  · exact qix2 _ _ _ _ _
  · exact qix3 _ _ _ _ _
theorem v_index (c : Nat → Int) {k : Nat} (hk : k < 3) (w : World) : (Instr.index 23 (.agg #[.int .i32 (c 0), .int .i32 (c 1), .int .i32 (c 2)]) (.int .i64 (k : Nat))).run Tryd.prog w = .ok (.int .i32 (c k)) w := by
  rcases (by omega : k = 0 ∨ k = 1 ∨ k = 2) with rfl | rfl | rfl
  · exact idx0 _ _ _ _
  · exact idx1 _ _ _ _
  · exact idx2 _ _ _ _
def smF (t : Nat → Int) (n : Int) (k : Nat) : Int := (t k).tmod n
theorem sm_bd (t : Nat → Int) {n : Int} (hn : 0 < n) (k : Nat) : -n < smF t n k ∧ smF t n k < n := by
  unfold smF
  refine ⟨?_, Int.tmod_lt_of_pos _ hn⟩
  have h := Int.tmod_lt_of_pos (-(t k)) hn
  rw [Int.neg_tmod] at h
  omega
def smP (t : Nat → Int) (n : Int) (m k : Nat) : Int := if k < m then smF t n k else 0
theorem smP_set (t : Nat → Int) (n : Int) {m : Nat} (hm : m < 3) : (#[.int .i32 (smP t n m 0), .int .i32 (smP t n m 1), .int .i32 (smP t n m 2)] : Array Value).setIfInBounds m (.int .i32 (smF t n m)) = #[.int .i32 (smP t n (m + 1) 0), .int .i32 (smP t n (m + 1) 1), .int .i32 (smP t n (m + 1) 2)] := by
  rcases (by omega : m = 0 ∨ m = 1 ∨ m = 2) with rfl | rfl | rfl <;> rfl
theorem vx_at (a : Nat → Int) {k : Nat} (hk : k < 3) : (#[.int .i32 (a 0), .int .i32 (a 1), .int .i32 (a 2)] : Array Value)[k]? = some (.int .i32 (a k)) := by
  rcases (by omega : k = 0 ∨ k = 1 ∨ k = 2) with rfl | rfl | rfl <;> rfl
theorem sat_smallH (x : Int) (h : -2147483648 ≤ x ∧ x ≤ 2147483647) : Fx.sat x = x := Fx.sat_id x h.1 h.2
theorem pw0H : Fx.pw 0 = 1 := by decide
theorem clamp_in (v M : Int) (h : -M ≤ v ∧ v ≤ M) : Fx.clamp v (-M) M = v := by unfold Fx.clamp; rw [if_neg (by omega), if_neg (by omega)]
/-- All four wheels, small torques: nothing is saturated. -/
theorem sh_all {t : Nat → Int} (ht : ∀ k, k < 3 → -99999 ≤ t k ∧ t k ≤ 99999) (k : Nat) (hk : k < 4) : shF t 15 2147483647 k = dotW t k / 4 ∧ dotW t k = wa k 0 * t 0 + wa k 1 * t 1 + wa k 2 * t 2 ∧ -300000 ≤ dotW t k ∧ dotW t k ≤ 300000 := by
  have h3 : In3 t := fun j hj => by have := ht j hj; omega
  have e := dotW_eq t k hk h3
  have h0 := ht 0 (by decide)
  have h1 := ht 1 (by decide)
  have h2 := ht 2 (by decide)
  have hb : -300000 ≤ dotW t k ∧ dotW t k ≤ 300000 := by
    rw [e]
    rcases (by omega : k = 0 ∨ k = 1 ∨ k = 2 ∨ k = 3) with rfl | rfl | rfl | rfl
    · show -300000 ≤ 1 * t 0 + 1 * t 1 + 1 * t 2 ∧ 1 * t 0 + 1 * t 1 + 1 * t 2 ≤ 300000; omega
    · show -300000 ≤ 1 * t 0 + (-1) * t 1 + (-1) * t 2 ∧ 1 * t 0 + (-1) * t 1 + (-1) * t 2 ≤ 300000; omega
    · show -300000 ≤ (-1) * t 0 + 1 * t 1 + (-1) * t 2 ∧ (-1) * t 0 + 1 * t 1 + (-1) * t 2 ≤ 300000; omega
    · show -300000 ≤ (-1) * t 0 + (-1) * t 1 + 1 * t 2 ∧ (-1) * t 0 + (-1) * t 1 + 1 * t 2 ≤ 300000; omega
  refine ⟨?_, e, hb⟩
  have hbit : 15 &&& bit1 (k : Int) ≠ 0 := by
    rcases (by omega : k = 0 ∨ k = 1 ∨ k = 2 ∨ k = 3) with rfl | rfl | rfl | rfl <;> decide
  unfold shF
  rw [if_pos hbit]
  show Fx.clamp (Fx.sat (dotW t k / 4)) (-2147483647) 2147483647 = _
  rw [sat_smallH _ (by omega), clamp_in _ _ (by omega)]
theorem wa_lit : (wa 0 0 = 1 ∧ wa 0 1 = 1 ∧ wa 0 2 = 1) ∧ (wa 1 0 = 1 ∧ wa 1 1 = -1 ∧ wa 1 2 = -1) ∧ (wa 2 0 = -1 ∧ wa 2 1 = 1 ∧ wa 2 2 = -1) ∧ (wa 3 0 = -1 ∧ wa 3 1 = -1 ∧ wa 3 2 = 1) := by decide
theorem one_sat (w p : Int) (hw : w = 1 ∨ w = -1) (h0 : -75000 ≤ p) (h1 : p ≤ 75000) : Fx.sat (w * p / Fx.pw 0) = w * p ∧ -75000 ≤ w * p ∧ w * p ≤ 75000 := by
  rw [pw0H, Int.ediv_one]
  rcases hw with rfl | rfl
  · exact ⟨sat_smallH _ (by omega), by omega, by omega⟩
  · exact ⟨sat_smallH _ (by omega), by omega, by omega⟩
theorem back0 (x y z : Int) : -4 ≤ 1 * ((1 * x + 1 * y + 1 * z) / 4) + 1 * ((1 * x + -1 * y + -1 * z) / 4) + -1 * ((-1 * x + 1 * y + -1 * z) / 4) + -1 * ((-1 * x + -1 * y + 1 * z) / 4) - x ∧ 1 * ((1 * x + 1 * y + 1 * z) / 4) + 1 * ((1 * x + -1 * y + -1 * z) / 4) + -1 * ((-1 * x + 1 * y + -1 * z) / 4) + -1 * ((-1 * x + -1 * y + 1 * z) / 4) - x ≤ 4 := by omega
theorem back1 (x y z : Int) : -4 ≤ 1 * ((1 * x + 1 * y + 1 * z) / 4) + -1 * ((1 * x + -1 * y + -1 * z) / 4) + 1 * ((-1 * x + 1 * y + -1 * z) / 4) + -1 * ((-1 * x + -1 * y + 1 * z) / 4) - y ∧ 1 * ((1 * x + 1 * y + 1 * z) / 4) + -1 * ((1 * x + -1 * y + -1 * z) / 4) + 1 * ((-1 * x + 1 * y + -1 * z) / 4) + -1 * ((-1 * x + -1 * y + 1 * z) / 4) - y ≤ 4 := by omega
theorem back2 (x y z : Int) : -4 ≤ 1 * ((1 * x + 1 * y + 1 * z) / 4) + -1 * ((1 * x + -1 * y + -1 * z) / 4) + -1 * ((-1 * x + 1 * y + -1 * z) / 4) + 1 * ((-1 * x + -1 * y + 1 * z) / 4) - z ∧ 1 * ((1 * x + 1 * y + 1 * z) / 4) + -1 * ((1 * x + -1 * y + -1 * z) / 4) + -1 * ((-1 * x + 1 * y + -1 * z) / 4) + 1 * ((-1 * x + -1 * y + 1 * z) / 4) - z ≤ 4 := by omega
theorem wa_one (k j : Nat) (hk : k < 4) (hj : j < 3) : wa k j = 1 ∨ wa k j = -1 := by
  rcases (by omega : k = 0 ∨ k = 1 ∨ k = 2 ∨ k = 3) with rfl | rfl | rfl | rfl <;> rcases (by omega : j = 0 ∨ j = 1 ∨ j = 2) with rfl | rfl | rfl <;> decide
theorem mk_sm {t : Nat → Int} (ht : ∀ k, k < 3 → -99999 ≤ t k ∧ t k ≤ 99999) (k j : Nat) (hk : k < 4) (hj : j < 3) : mkF (shF t 15 2147483647) k j = wa k j * (dotW t k / 4) ∧ -75000 ≤ mkF (shF t 15 2147483647) k j ∧ mkF (shF t 15 2147483647) k j ≤ 75000 := by
  obtain ⟨a1, a2, a3, a4⟩ := sh_all ht k hk
  unfold mkF
  rw [a1]
  have h := one_sat (wa k j) (dotW t k / 4) (wa_one k j hk hj) (by omega) (by omega)
  rw [h.1]
  exact ⟨rfl, h.2⟩
theorem jn_sm {t : Nat → Int} (ht : ∀ k, k < 3 → -99999 ≤ t k ∧ t k ≤ 99999) (j : Nat) (hj : j < 3) : jnF (shF t 15 2147483647) j = wa 0 j * (dotW t 0 / 4) + wa 1 j * (dotW t 1 / 4) + wa 2 j * (dotW t 2 / 4) + wa 3 j * (dotW t 3 / 4) := by
  obtain ⟨a1, a2, a3⟩ := mk_sm ht 0 j (by decide) hj
  obtain ⟨b1, b2, b3⟩ := mk_sm ht 1 j (by decide) hj
  obtain ⟨c1, c2, c3⟩ := mk_sm ht 2 j (by decide) hj
  obtain ⟨d1, d2, d3⟩ := mk_sm ht 3 j (by decide) hj
  unfold jnF
  rw [sat_smallH _ (by omega), a1, b1, c1, d1]
theorem join_back {t : Nat → Int} (ht : ∀ k, k < 3 → -99999 ≤ t k ∧ t k ≤ 99999) (j : Nat) (hj : j < 3) : -4 ≤ jnF (shF t 15 2147483647) j - t j ∧ jnF (shF t 15 2147483647) j - t j ≤ 4 := by
  rw [jn_sm ht j hj, (sh_all ht 0 (by decide)).2.1, (sh_all ht 1 (by decide)).2.1, (sh_all ht 2 (by decide)).2.1, (sh_all ht 3 (by decide)).2.1]
  rcases (by omega : j = 0 ∨ j = 1 ∨ j = 2) with rfl | rfl | rfl
  · exact back0 (t 0) (t 1) (t 2)
  · exact back1 (t 0) (t 1) (t 2)
  · exact back2 (t 0) (t 1) (t 2)
end Go.Proofs.YtinaimacocgemaaDoor
