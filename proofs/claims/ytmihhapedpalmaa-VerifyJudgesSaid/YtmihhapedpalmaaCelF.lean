/- Cells: what is made of a cell's parts. -/
import Derived.Test.YtmihhapedpalmaaCel3
namespace Go.Proofs.Ytmihhapedpalmaa
open Go.RowKit Go.Own
set_option linter.unusedVariables false
set_option linter.unusedSimpArgs false

theorem take6 (l : List Nat) (h : 6 ≤ l.length) : l.take 6 = [l.getD 0 0, l.getD 1 0, l.getD 2 0, l.getD 3 0, l.getD 4 0, l.getD 5 0] := by
  match l with
  | a :: b :: c :: d :: e :: f :: r => rfl
theorem mkHead_of {l : List Nat} (h : bytes l) : mkHead (pseq l) (psize l) = [l.getD 0 0, l.getD 1 0, l.getD 2 0, l.getD 3 0, l.getD 4 0, l.getD 5 0] := by
  have a := h.at 0
  have b := h.at 1
  have c := h.at 2
  have d := h.at 3
  have e := h.at 4
  have f := h.at 5
  rw [mkHead_eq]
  unfold pseq psize
  simp only [List.cons.injEq, and_true]
  refine ⟨?_, ?_, ?_, ?_, ?_, ?_⟩ <;> omega
/-- A cell is just what is made of its parts. -/
theorem mkCell_of {l : List Nat} (h : bytes l) (he : perr l = 0) : mkCell (pseq l) (pdat l) = l := by
  have h1 : 8 ≤ l.length ∧ psize l + 8 = l.length := by
    unfold perr at he
    split at he
    · omega
    · rename_i h; omega
  have h2 : rightB l = true := by
    unfold perr at he
    split at he
    · omega
    · split at he
      · assumption
      · omega
  have hd : (pdat l).length = psize l := by rw [pdat_len h1.1]; omega
  have hbody : mkHead (pseq l) (pdat l).length ++ pdat l = l.take (l.length - 2) := by
    rw [hd, mkHead_of h, ← take6 l (by omega)]
    unfold pdat
    apply List.ext_getElem?
    intro i
    rw [List.getElem?_append]
    rw [show (l.take 6).length = 6 by rw [List.length_take]; omega]
    simp only [List.getElem?_take, List.getElem?_drop]
    by_cases h6 : i < 6
    · rw [if_pos h6, if_pos h6, if_pos (by omega)]
    · rw [if_neg h6]
      by_cases h8 : i < l.length - 2
      · rw [if_pos (by omega), if_pos h8, show 6 + (i - 6) = i by omega]
      · rw [if_neg (by omega), if_neg h8]
  unfold mkCell whole
  rw [hbody]
  have hx := h.at (l.length - 2)
  have hy := h.at (l.length - 1)
  unfold rightB at h2
  have h3 := of_decide_eq_true h2
  rw [h3.2]
  have e : l = l.take (l.length - 2) ++ [l.getD (l.length - 2) 0, l.getD (l.length - 1) 0] := by
    have := seg_two l (l.length - 2) (by omega)
    rw [show l.length - 2 + 1 = l.length - 1 by omega] at this
    rw [← this]
    have h3 : (l.drop (l.length - 2)).take 2 = l.drop (l.length - 2) := List.take_of_length_le (by rw [List.length_drop]; omega)
    rw [h3, List.take_append_drop]
  have e1 : (l.getD (l.length - 2) 0 * 256 + l.getD (l.length - 1) 0) / 256 = l.getD (l.length - 2) 0 := by omega
  have e2 : (l.getD (l.length - 2) 0 * 256 + l.getD (l.length - 1) 0) % 256 = l.getD (l.length - 1) 0 := by omega
  rw [e1, e2]
  exact e.symm

end Go.Proofs.Ytmihhapedpalmaa
