/- Layer 15: wider bounds. -/
import Derived.Test.YtkgeeohgfbacaaaLaw15r
namespace Go.Proofs.Ytkgeeohgfbacaaa
open Go.RowKit Go.Own
set_option linter.unusedVariables false
set_option linter.unusedSimpArgs false
theorem lim_vio {l h x l' h' : Int} (a : l' ≤ l) (b : h ≤ h') (e : vio (limOf l h x) = false) : vio (limOf l' h' x) = false := by
  unfold limOf at *
  split at e
  · exact absurd e (by decide)
  split at e
  · exact absurd e (by decide)
  · rw [if_neg (by omega), if_neg (by omega)]; rfl
theorem exp_vio {m n a q : Nat} (e : vio (expOf m n a) = false) : vio (expOf (m &&& q) n a) = false := by
  unfold expOf at *
  split at e
  · rename_i h
    rw [← Nat.and_assoc, ← Nat.and_assoc, h, if_pos rfl]; rfl
  · exact absurd e (by decide)
theorem wide_vio {k p l h l' h' now before : Int} {m n q : Nat} (hr : (Df.mk k p l h m n).right = true) (a : l' ≤ l) (b : h ≤ h') (e : vio ((Df.mk k p l h m n).look now before false) = false) : vio ((Df.mk k p l' h' (m &&& q) n).look now before false) = false := by
  have hr2 : (Df.mk k p l' h' (m &&& q) n).right = true := by
    simp only [Df.right, Bool.and_eq_true, decide_eq_true_eq] at hr ⊢
    omega
  unfold Df.look at *
  rw [hr, if_neg (by simp)] at e
  rw [hr2, if_neg (by simp)]
  simp only at e ⊢
  split at e
  · rw [if_pos ‹_›]; exact exp_vio e
  · rw [if_neg ‹_›]
    split at e
    · rw [if_pos ‹_›]; exact lim_vio a b e
    · rw [if_neg ‹_›]; exact lim_vio a b e
end Go.Proofs.Ytkgeeohgfbacaaa
