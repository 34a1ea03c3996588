/- CellLong, walked. -/
import Derived.Test.YtfolebogfapmaaaLaw06
namespace Go.Proofs.Ytfolebogfapmaaa
open Go.RowKit Go.Own
set_option linter.unusedVariables false
set_option linter.unusedSimpArgs false

theorem filled_set (n k b : Nat) (h : k < n) : (bl (List.replicate k b ++ List.replicate (n - k) 0)).set k (.int .u8 (b : Int)) = bl (List.replicate (k + 1) b ++ List.replicate (n - (k + 1)) 0) := by
  have e : n - k = (n - (k + 1)) + 1 := by omega
  rw [e, List.replicate_succ (n := n - (k + 1)), List.replicate_succ', bl_append, bl_append, bl_append, List.set_append_right _ _ (by simp [bl_len])]
  simp [bl_len, bl]
theorem filled_len (n k b : Nat) (h : k ≤ n) : (List.replicate k b ++ List.replicate (n - k) 0).length = n := by simp; omega
theorem filled_bytes (n b : Nat) (h : b < 256) : bytes (List.replicate n b) := fun x hx => by
  obtain ⟨_, rfl⟩ := List.mem_replicate.1 hx
  exact h
end Go.Proofs.Ytfolebogfapmaaa
