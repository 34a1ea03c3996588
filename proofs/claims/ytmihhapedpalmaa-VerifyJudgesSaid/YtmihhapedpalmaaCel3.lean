/- Contracts of layer 6 (cells), on: the document's reading. -/
import Derived.Test.YtmihhapedpalmaaCel2
namespace Go.Proofs.Ytmihhapedpalmaa
open Go.RowKit Go.Own
set_option linter.unusedVariables false
set_option linter.unusedSimpArgs false

theorem rd_mid {n len cap b off : Nat} {l : List Nat} {w : World} (h : Rd n w (some ⟨b, off, none⟩) len cap (bv l)) (i k : Nat) (hi : i + k ≤ len) : Rd n w (some ⟨b, off + i, none⟩) k (cap - i) (bv ((l.drop i).take k)) := by
  have h1 := h.le
  have h2 := h.top
  refine ⟨by omega, by omega, fun h => (by cases h), fun hk => ?_⟩
  obtain ⟨b', off', e, hb, hc⟩ := h.row (by omega)
  cases e
  refine ⟨b, off + i, rfl, hb, fun j hj => ?_⟩
  rw [show off + i + j = off + (i + j) by omega, hc (i + j) (by omega)]
  unfold bv
  simp only [List.getD, List.getElem?_take, List.getElem?_drop]
  rw [if_pos (by omega)]
end Go.Proofs.Ytmihhapedpalmaa
