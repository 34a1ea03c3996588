/- Layer 18: how great the tables' numbers are (pure). -/
import Derived.Test.YtioclbkgfbjpdaaSwQ
namespace Go.Proofs.Ytioclbkgfbjpdaa
open Bs
set_option linter.unusedVariables false
/-- How great the ways from each place are. -/
def Bd (R : Nat) (F : Nat → Nat → Wy) : Prop := ∀ r u, (F r u).n ≤ 16 ^ (R - 1 - r) ∧ (F r u).d ≤ R - r
theorem Bd.small {R : Nat} {F : Nat → Nat → Wy} (h : Bd R F) (hR : R ≤ 6) : Small F := fun r u => by
  obtain ⟨h1, h2⟩ := h r u
  have h3 : 16 ^ (R - 1 - r) ≤ 16 ^ 5 := Nat.pow_le_pow_right (by omega) (by omega)
  exact ⟨by omega, by omega⟩
theorem foldW_bd {F : Nat → Nat → Wy} {r A B : Nat} (h : ∀ u, (F r u).n ≤ A ∧ (F r u).d ≤ B) (l : List Nat) : (foldW F r l).n ≤ A * l.length ∧ (foldW F r l).d ≤ B := by
  unfold foldW
  suffices hh : ∀ (l : List Nat) (x : Wy) (k : Nat), x.n ≤ k → x.d ≤ B → (l.foldl (fun x u => x.or (F r u)) x).n ≤ k + A * l.length ∧ (l.foldl (fun x u => x.or (F r u)) x).d ≤ B by
    have := hh l Wy.zero 0 (Nat.le_refl _) (by simp [Wy.zero])
    simpa using this
  intro l
  induction l with
  | nil => intro x k h1 h2; exact ⟨by simpa using h1, h2⟩
  | cons u l ih =>
    intro x k h1 h2
    obtain ⟨a, b⟩ := h u
    have h3 : (x.or (F r u)).n = x.n + (F r u).n := by unfold Wy.or; split <;> rfl
    have h4 : (x.or (F r u)).d ≤ B := by unfold Wy.or; split <;> assumption
    have := ih (x.or (F r u)) (k + A) (by omega) h4
    simp only [List.foldl_cons, List.length_cons, Nat.mul_add, Nat.mul_one]
    omega
theorem fromW_bd {R r : Nat} {F : Nat → Nat → Wy} (h : Bd R F) (hr : r < R) (s : Nat) : (fromW F R (r + 1) s).n ≤ 16 ^ (R - 1 - r) ∧ (fromW F R (r + 1) s).d ≤ R - (r + 1) := by
  unfold fromW
  split
  · rename_i e
    exact ⟨Nat.pow_pos (n := R - 1 - r) (show 0 < 16 by omega), by simp⟩
  · rename_i e
    obtain ⟨h1, h2⟩ := foldW_bd (h (r + 1)) (upTo s 16)
    have h3 := upTo_len s 16
    have h4 : 16 ^ (R - 1 - r) = 16 ^ (R - 1 - (r + 1)) * 16 := by rw [← Nat.pow_succ]; congr 1; omega
    have h5 : 16 ^ (R - 1 - (r + 1)) * (upTo s 16).length ≤ 16 ^ (R - 1 - (r + 1)) * 16 := Nat.mul_le_mul_left _ h3
    exact ⟨by omega, h2⟩
theorem Bd.unit {R r : Nat} {F : Nat → Nat → Wy} {lk : Nat → Nat} {near : Nat → Int} (h : Bd R F) (hr : r < R) (u : Nat) : Bd R (unitStep lk near R r F u) := fun r' u' => by
  unfold unitStep
  split
  · unfold updW
    split
    · rename_i e
      obtain ⟨rfl, rfl⟩ := e
      obtain ⟨h1, h2⟩ := fromW_bd h hr (lk u')
      refine ⟨h1, ?_⟩
      unfold Wy.with
      dsimp only
      split <;> omega
    · exact h r' u'
  · exact h r' u'
theorem Bd.role {R r : Nat} {lk : Nat → Nat} {near : Nat → Int} (hr : r < R) : ∀ (us : List Nat) (F : Nat → Nat → Wy), Bd R F → Bd R (roleStep lk near R r F us)
  | [], _, h => h
  | u :: us, F, h => Bd.role hr us _ (h.unit hr u)
theorem Bd.zero (R : Nat) : Bd R (fun _ _ => Wy.zero) := fun _ _ => ⟨Nat.zero_le _, Nat.zero_le _⟩
theorem Bd.tab (al lk : Nat → Nat) (near : Nat → Int) (R : Nat) : ∀ k, k ≤ R → Bd R (tabW al lk near R k)
  | 0, _ => Bd.zero R
  | k + 1, h => Bd.role (by omega) _ _ (Bd.tab al lk near R k (by omega))
theorem roleStep_snoc (lk : Nat → Nat) (near : Nat → Int) (R r : Nat) (F : Nat → Nat → Wy) (us : List Nat) (u : Nat) : roleStep lk near R r F (us ++ [u]) = unitStep lk near R r (roleStep lk near R r F us) u := by simp [roleStep]
end Go.Proofs.Ytioclbkgfbjpdaa
