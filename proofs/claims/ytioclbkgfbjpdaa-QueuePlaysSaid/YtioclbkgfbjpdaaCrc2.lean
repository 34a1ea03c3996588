/- Contracts of package crc: Right, Append, Cut, and the document's. -/
import Derived.Test.YtioclbkgfbjpdaaCrc
namespace Go.Proofs.Ytioclbkgfbjpdaa
open Go.RowKit Go.Own
set_option linter.unusedVariables false
set_option linter.unusedSimpArgs false

theorem rd_one {w : World} {g n : Nat} {v : Value} {t : TypeId} (h : w.heap[g]? = some (.cells #[v] t (0, 0))) (hg : g < n) : Rd n w (some ⟨g, 0, none⟩) 1 1 (fun _ => v) :=
  ⟨Nat.le_refl _, by unfold maxLen; omega, fun h => (by cases h), fun _ => ⟨g, 0, rfl, hg, fun i hi => by
    obtain rfl : i = 0 := by omega
    exact cell_of_row w g 0 _ _ _ h⟩⟩
theorem lt_of_heap {w : World} {g : Nat} {o : Obj} (h : w.heap[g]? = some o) : g < w.heap.size := by
  rcases Nat.lt_or_ge g w.heap.size with h' | h'
  · exact h'
  · rw [Array.getElem?_eq_none h'] at h; cases h
theorem flat_one (l : List Nat) : flat (fun _ => l) 1 = l := by simp [flat]
theorem orJoin (x y : Nat) (hx : x < 256) (hy : y < 256) : bits .or .u16 ((x : Int) * 256) (y : Int) = (x : Int) * 256 + y :=
  bits_join .u16 16 (by decide) wraps_u16 8 _ _ (by omega) (by omega) (by omega) (by omega) (by omega) (by omega)

theorem own_base {w : World} {B B' : Nat} {e : TypeId} {v : Value} {m : Nat} {xs : List Value} (h : w.ownsRow B' e 1 v m xs) (hB : B ≤ B') : w.ownsRow B e 1 v m xs := by
  obtain ⟨h1, h2 | ⟨g, cap, cur, hv, hg, hr⟩⟩ := h
  · exact ⟨h1, .inl h2⟩
  · exact ⟨h1, .inr ⟨g, cap, cur, hv, by omega, hr⟩⟩
theorem cells_two (w : World) (x y : Value) (t : TypeId) : ∀ j u, [x, y][j]? = some u → (w.alloc (.cells #[x, y] t)).cell? ((⟨w.heap.size, 0, none⟩ : Addr).add j) = some u := by
  intro j u hj
  match j with
  | 0 => simp at hj; subst hj; exact cell_of_row _ w.heap.size 0 _ _ _ (heap_alloc_new w _)
  | 1 => simp at hj; subst hj; exact cell_of_row _ w.heap.size 1 _ _ _ (heap_alloc_new w _)
  | j + 2 => simp at hj
def rightB (l : List Nat) : Bool := decide (2 ≤ l.length ∧ Cr.sum (l.take (l.length - 2)) = l.getD (l.length - 2) 0 * 256 + l.getD (l.length - 1) 0)

theorem val_two (l : List Nat) (k : Nat) (h : l.length = k + 2) : val (l.drop k) = 256 * l.getD k 0 + l.getD (k + 1) 0 := by
  have e : l.drop k = [l.getD k 0, l.getD (k + 1) 0] := by
    apply List.ext_getElem?
    intro i
    rw [List.getElem?_drop]
    match i with
    | 0 => simp [List.getD, h]
    | 1 => simp [List.getD, h]
    | i + 2 => simp; omega
  rw [e]
  simp [val]

theorem rd_two {w : World} {g n : Nat} {u v : Value} {t : TypeId} (h : w.heap[g]? = some (.cells #[u, v] t (0, 0))) (hg : g < n) : Rd n w (some ⟨g, 0, none⟩) 2 2 (fun i => if i = 0 then u else v) :=
  ⟨Nat.le_refl _, by unfold maxLen; omega, fun h => (by cases h), fun _ => ⟨g, 0, rfl, hg, fun i hi => by
    have : i = 0 ∨ i = 1 := by omega
    rcases this with rfl | rfl
    · exact cell_of_row w g 0 _ _ _ h
    · exact cell_of_row w g 1 _ _ _ h⟩⟩
theorem two_slices {a b : Option Addr} {la lb ca cb : Nat} (l m : List Nat) (hl : l.length = la) (hm : m.length = lb) : (fun i => if i = 0 then Value.slice a la ca else .slice b lb cb) = fun i => .slice ((fun i => if i = 0 then a else b) i) ((fun i => if i = 0 then l else m) i).length ((fun i => if i = 0 then ca else cb) i) := by
  subst hl hm
  funext i
  by_cases h : i = 0 <;> simp [h]
theorem flat_two (l m : List Nat) : flat (fun i => if i = 0 then l else m) 2 = l ++ m := by simp [flat, List.range_succ]
/-- A text with its sum. -/
def whole (l : List Nat) : List Nat := l ++ [Cr.sum l / 256, Cr.sum l % 256]
theorem whole_len (l : List Nat) : (whole l).length = l.length + 2 := by simp [whole]
theorem whole_bytes {l : List Nat} (h : bytes l) : bytes (whole l) := by
  have := Cr.sum_lt l h
  intro b hb
  simp only [whole, List.mem_append, List.mem_cons, List.not_mem_nil, or_false] at hb
  rcases hb with hb | rfl | rfl
  · exact h b hb
  · omega
  · omega
theorem whole_num {l : List Nat} (h : bytes l) : whole l = l ++ numB (Cr.sum l) 2 := by
  have := Cr.sum_lt l h
  have e : Cr.sum l / 256 ^ 1 % 256 = Cr.sum l / 256 := by rw [Nat.pow_one]; omega
  have e0 : Cr.sum l / 256 ^ 0 % 256 = Cr.sum l % 256 := by rw [Nat.pow_zero, Nat.div_one]
  simp only [whole, numB]
  rw [e, e0]

/-- What Cut hands back. -/
def CutPost (w : World) (l : List Nat) (e : Ending) (w' : World) : Prop :=
  Below w.heap.size w w' ∧ ((l.length < 2 ∧ e = .returned (.tuple #[.slice none 0 0, .int .i64 2])) ∨ (2 ≤ l.length ∧ rightB l = false ∧ e = .returned (.tuple #[.slice none 0 0, .int .i64 5])) ∨
    (2 ≤ l.length ∧ rightB l = true ∧ ∃ v, e = .returned (.tuple #[v, .int .i64 0]) ∧ w'.ownsRow w.heap.size 5 1 v (l.length - 2) (bl (l.take (l.length - 2)))))

end Go.Proofs.Ytioclbkgfbjpdaa
