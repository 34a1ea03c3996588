/- PacketLong, walked. -/
import Derived.Test.YtfolebogfapmaaaPk5
import Derived.Test.YtfolebogfapmaaaPk6
import Derived.Test.YtfolebogfapmaaaLaw06l
namespace Go.Proofs.Ytfolebogfapmaaa
open Go.RowKit Go.Own
set_option linter.unusedVariables false
set_option linter.unusedSimpArgs false

theorem psize_app {K l : List Nat} (h : 6 ≤ K.length) : psize (K ++ l) = psize K := by
  unfold psize
  simp only [List.getD]
  rw [List.getElem?_append_left (by omega), List.getElem?_append_left (by omega)]
/-- Packets behind one another are parted in one way. -/
theorem split_uniq : ∀ (Ks Ls : List (List Nat)) (r rest : List Nat), (∀ x ∈ Ks, psize x + 7 = x.length) → (∀ x ∈ Ls, psize x + 7 = x.length) → (r.length < 6 ∨ r.length < psize r + 7) → Ls.flatten ++ r = Ks.flatten ++ rest → ∃ Ls', Ls = Ks ++ Ls' ∧ Ls'.flatten ++ r = rest
  | [], Ls, r, rest, _, _, _, h => ⟨Ls, rfl, by simpa using h⟩
  | K :: Ks, Ls, r, rest, hK, hL, hr, h => by
    have k1 := hK K (by simp)
    have e1 : (K :: Ks).flatten ++ rest = K ++ (Ks.flatten ++ rest) := by simp
    rw [e1] at h
    cases Ls with
    | nil =>
      exfalso
      simp at h
      have h1 : psize r = psize K := by rw [h, psize_app (by omega)]
      have h2 : r.length = K.length + (Ks.flatten ++ rest).length := by rw [h, List.length_append]
      omega
    | cons L Ls =>
      have l1 := hL L (by simp)
      have e2 : (L :: Ls).flatten ++ r = L ++ (Ls.flatten ++ r) := by simp
      rw [e2] at h
      have h1 : psize L = psize K := by
        have a := psize_app (K := L) (l := Ls.flatten ++ r) (by omega)
        have b := psize_app (K := K) (l := Ks.flatten ++ rest) (by omega)
        rw [← a, ← b, h]
      have h2 := List.append_inj h (by omega)
      obtain ⟨Ls', h3, h4⟩ := split_uniq Ks Ls r rest (fun x hx => hK x (by simp [hx])) (fun x hx => hL x (by simp [hx])) hr h2.2
      exact ⟨Ls', by rw [h2.1, h3]; rfl, h4⟩
theorem split_end {Ls : List (List Nat)} {r : List Nat} (hL : ∀ x ∈ Ls, psize x + 7 = x.length) (h : Ls.flatten ++ r = []) : Ls = [] ∧ r = [] := by
  have h1 := List.append_eq_nil_iff.1 h
  refine ⟨?_, h1.2⟩
  cases Ls with
  | nil => rfl
  | cons L Ls =>
    have l1 := hL L (by simp)
    have : L = [] := by
      have := h1.1
      simp at this
      exact this.1
    rw [this] at l1
    simp at l1
end Go.Proofs.Ytfolebogfapmaaa
