/- SteerTurns. -/
import Derived.Test.YtinaimacocgemaaDoorLaw23h
import Derived.Test.YtinaimacocgemaaDoorBx
namespace Go.Proofs.YtinaimacocgemaaDoor
open Go.RowKit Go.Own Bs
set_option linter.unusedVariables false
set_option linter.unusedSimpArgs false
theorem mul_smallU (x g : Int) (hx : -9999 ≤ x ∧ x ≤ 9999) (hg : -32768 ≤ g ∧ g ≤ 32767) : -327680000 ≤ x * g ∧ x * g ≤ 327680000 := by
  have := Fx.mul_bd x g 10000 32768 (by omega) (by omega) (by omega) (by omega)
  omega
theorem clamp_neg (v M : Int) (h : 0 ≤ M) : Fx.clamp (-v) (-M) M = -(Fx.clamp v (-M) M) := by
  unfold Fx.clamp
  repeat' split
  all_goals omega
theorem clamp_bdU (v M : Int) (h : 0 ≤ M) : -M ≤ Fx.clamp v (-M) M ∧ Fx.clamp v (-M) M ≤ M := by
  unfold Fx.clamp; split <;> (try split) <;> omega
def zeroF : Nat → Int := fun _ => 0
theorem bd_up (x : Nat → Int) (g m : Int) (k : Nat) (hx : -9999 ≤ x k ∧ x k ≤ 9999) (hg : -32768 ≤ g ∧ g ≤ 32767) : bdF x zeroF g 0 m k = -(Fx.clamp (x k * g) (-(max m 0)) (max m 0)) := by
  have h := mul_smallU (x k) g hx hg
  show Fx.clamp (Fx.sat (-(Fx.sat (Fx.sat (x k - 0) * g / Fx.pw 0)))) (-(max m 0)) (max m 0) = _
  rw [pw0H, Int.ediv_one, sat_smallH (x k - 0) (by omega), Int.sub_zero, sat_smallH (x k * g) (by omega), sat_smallH (-(x k * g)) (by omega), clamp_neg _ _ (by omega)]
theorem bd_down (x : Nat → Int) (g m : Int) (k : Nat) (hx : -9999 ≤ x k ∧ x k ≤ 9999) (hg : -32768 ≤ g ∧ g ≤ 32767) : bdF zeroF x g 0 m k = Fx.clamp (x k * g) (-(max m 0)) (max m 0) := by
  have h := mul_smallU (x k) g hx hg
  show Fx.clamp (Fx.sat (-(Fx.sat (Fx.sat (0 - x k) * g / Fx.pw 0)))) (-(max m 0)) (max m 0) = _
  rw [pw0H, Int.ediv_one, sat_smallH (0 - x k) (by omega), show (0 - x k) * g = -(x k * g) by rw [Int.zero_sub, Int.neg_mul], sat_smallH (-(x k * g)) (by omega), Int.neg_neg, sat_smallH (x k * g) (by omega)]
theorem turn_sh {y : Nat → Int} (hy : ∀ k, k < 3 → -9999 ≤ y k ∧ y k ≤ 9999) (k : Nat) (hk : k < 4) : (shF y 15 2147483647 k + shF (fun j => -(y j)) 15 2147483647 k = 0 ∨ shF y 15 2147483647 k + shF (fun j => -(y j)) 15 2147483647 k = -1) ∧ (-75000 ≤ shF y 15 2147483647 k ∧ shF y 15 2147483647 k ≤ 75000) ∧ (-75000 ≤ shF (fun j => -(y j)) 15 2147483647 k ∧ shF (fun j => -(y j)) 15 2147483647 k ≤ 75000) := by
  obtain ⟨a1, a2, a3, a4⟩ := sh_all (t := y) (fun j hj => by have := hy j hj; omega) k hk
  obtain ⟨b1, b2, b3, b4⟩ := sh_all (t := fun j => -(y j)) (fun j hj => by have := hy j hj; omega) k hk
  have e : dotW (fun j => -(y j)) k = -(dotW y k) := by
    rw [b2, a2]
    skip
    rw [Int.mul_neg, Int.mul_neg, Int.mul_neg]
    omega
  rw [a1, b1, e]
  clear a1 a2 b1 b2 b3 b4 e
  generalize dotW y k = D at a3 a4 ⊢
  omega
end Go.Proofs.YtinaimacocgemaaDoor
