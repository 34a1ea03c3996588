/- Layer 18: the document's nearest chain. -/
import Derived.Test.YtioclbkgfbjpdaaLaw18m
namespace Go.Proofs.Ytioclbkgfbjpdaa
open Go.RowKit Go.Own Bs
set_option linter.unusedVariables false
set_option linter.unusedSimpArgs false
/-- In how many roles chains differ. -/
def farN (c d : Nat → Int) : Nat := (difL c d 6).length
theorem difL_cnt (c d : Nat → Int) (k : Nat) : (difL c d k).length = ((List.range k).filter fun i => decide (c i ≠ d i)).length := by unfold difL; rw [List.length_map]
theorem farN_zero {c d : Nat → Int} : farN c d = 0 ↔ ∀ j, j < 6 → c j = d j := by
  unfold farN
  rw [difL_cnt, List.length_eq_zero_iff, List.filter_eq_nil_iff]
  constructor
  · intro h j hj
    have := h j (List.mem_range.2 hj)
    simpa using this
  · intro h j hj
    have := h j (List.mem_range.1 hj)
    simpa using this
/-- How a chain's part differs, and what is left behind it. -/
def restN (near : Nat → Int) (R : Nat) : Nat := ((List.range 6).filter fun i => decide (R ≤ i ∧ -1 ≠ near i)).length
theorem item_far (near : Nat → Int) : ∀ (x : List Nat) (r : Nat), (item near r x).d = ((List.range x.length).filter fun i => decide (((x.getD i 0 : Nat) : Int) ≠ near (r + i))).length
  | [], r => rfl
  | u :: x, r => by
    show (if ((u : Nat) : Int) ≠ near r then (item near (r + 1) x).d + 1 else (item near (r + 1) x).d) = _
    rw [item_far near x (r + 1), List.length_cons, List.range_succ_eq_map, List.filter_cons, List.filter_map]
    have e : ((fun i => decide ((((u :: x).getD i 0 : Nat) : Int) ≠ near (r + i))) ∘ Nat.succ) = fun i => decide (((x.getD i 0 : Nat) : Int) ≠ near (r + 1 + i)) := by
      funext i
      show decide (((x.getD i 0 : Nat) : Int) ≠ near (r + (i + 1))) = _
      rw [show r + (i + 1) = r + 1 + i by omega]
    rw [e]
    by_cases h : ((u : Nat) : Int) ≠ near r
    · have h' : decide ((((u :: x).getD 0 0 : Nat) : Int) ≠ near (r + 0)) = true := by simpa using h
      rw [if_pos h, if_pos h', List.length_cons, List.length_map]
    · have h' : ¬ decide ((((u :: x).getD 0 0 : Nat) : Int) ≠ near (r + 0)) = true := by simpa using h
      rw [if_neg h, if_neg h', List.length_map]
theorem far_item (near : Nat → Int) (x : List Nat) (hx : x.length ≤ 6) : farN (chainC x) near = (item near 0 x).d + restN near x.length := by
  unfold farN restN
  rw [difL_cnt, item_far]
  have key : ∀ k, k ≤ 6 → ((List.range k).filter fun i => decide (chainC x i ≠ near i)).length = ((List.range (min k x.length)).filter fun i => decide (((x.getD i 0 : Nat) : Int) ≠ near (0 + i))).length + ((List.range k).filter fun i => decide (x.length ≤ i ∧ -1 ≠ near i)).length := by
    intro k
    induction k with
    | zero => intro _; rw [Nat.zero_min]; rfl
    | succ k ih =>
      intro hk
      rw [List.range_succ, List.filter_append, List.length_append, List.filter_append, List.length_append, ih (by omega)]
      by_cases hl : k < x.length
      · rw [show min (k + 1) x.length = min k x.length + 1 by omega, show min k x.length = k by omega, List.range_succ, List.filter_append, List.length_append]
        have e1 : chainC x k = ((x.getD k 0 : Nat) : Int) := by unfold chainC; rw [if_pos hl]
        have e2 : ([k].filter fun i => decide (x.length ≤ i ∧ -1 ≠ near i)) = [] := by
          rw [List.filter_eq_nil_iff]; intro a ha; rw [List.mem_singleton.1 ha]; simp; omega
        have e3 : ([k].filter fun i => decide (chainC x i ≠ near i)).length = ([k].filter fun i => decide (((x.getD i 0 : Nat) : Int) ≠ near (0 + i))).length := by
          simp only [List.filter_cons, List.filter_nil, e1, Nat.zero_add]
        rw [e2, e3]
        simp only [List.length_nil]
        omega
      · rw [show min (k + 1) x.length = min k x.length by omega]
        have e1 : chainC x k = -1 := by unfold chainC; rw [if_neg hl]
        have e3 : ([k].filter fun i => decide (chainC x i ≠ near i)).length = ([k].filter fun i => decide (x.length ≤ i ∧ -1 ≠ near i)).length := by
          have : x.length ≤ k := by omega
          simp only [List.filter_cons, List.filter_nil, e1, this, true_and]
        rw [e3]
        omega
  have := key 6 (Nat.le_refl _)
  rw [show min 6 x.length = x.length by omega] at this
  exact this
/-- The document's fold. -/
def bestS (near : Nat → Int) (p : (Nat → Int) × Bool) (x : List Nat) : (Nat → Int) × Bool := if p.2 = false ∨ farN (chainC x) near < farN p.1 near then (chainC x, true) else p
def bestF (near : Nat → Int) (D : List (List Nat)) : (Nat → Int) × Bool := D.foldl (bestS near) (noneC, false)
theorem bestF_snoc (near : Nat → Int) (D : List (List Nat)) (x : List Nat) : bestF near (D ++ [x]) = bestS near (bestF near D) x := by simp [bestF]
theorem best_is (near : Nat → Int) {R : Nat} (hR : R ≤ 6) : ∀ (D : List (List Nat)) (p : (Nat → Int) × Bool) (A : Wy), (∀ x ∈ D, x.length = R) → (p.2 = false ↔ A.n = 0) → (p.2 = true → A.b = p.1 ∧ farN p.1 near = A.d + restN near R) → (p.2 = false → p.1 = noneC) →
    (D.foldl (bestS near) p).1 = nearC ((D.map (item near 0)).foldl Wy.or A) ∧ (D.foldl (bestS near) p).2 = decide (0 < ((D.map (item near 0)).foldl Wy.or A).n)
  | [], p, A, _, h1, h2, h3 => by
    show p.1 = nearC A ∧ p.2 = decide (0 < A.n)
    unfold nearC
    cases hp : p.2
    · have := h1.1 hp
      rw [if_pos this, h3 hp]
      exact ⟨rfl, by simp [this]⟩
    · have hn : A.n ≠ 0 := fun h => by rw [h1.2 h] at hp; cases hp
      rw [if_neg hn, (h2 hp).1]
      exact ⟨rfl, (decide_eq_true (by omega)).symm⟩
  | x :: D, p, A, hl, h1, h2, h3 => by
    rw [List.foldl_cons, List.map_cons, List.foldl_cons]
    have hx := hl x (by simp)
    have hf := far_item near x (by omega)
    have hn := item_n near 0 x
    rw [hx] at hf
    refine best_is near hR D _ _ (fun y hy => hl y (by simp [hy])) ?_ ?_ ?_
    · have hon : (A.or (item near 0 x)).n = A.n + 1 := by unfold Wy.or; split <;> simp [hn]
      rw [hon]
      unfold bestS
      split
      · simp
      · rename_i h
        constructor
        · intro h'; exact absurd (.inl h') h
        · intro h'; omega
    · intro _
      unfold bestS Wy.or
      by_cases hc : p.2 = false ∨ farN (chainC x) near < farN p.1 near
      · rw [if_pos hc]
        have : A.n = 0 ∨ 0 < (item near 0 x).n ∧ (item near 0 x).d < A.d := by
          rcases hc with hc | hc
          · exact .inl (h1.1 hc)
          · cases hp : p.2
            · exact .inl (h1.1 hp)
            · have := (h2 hp).2
              exact .inr ⟨by omega, by omega⟩
        rw [if_pos this]
        exact ⟨item_chain near x, hf⟩
      · rw [if_neg hc]
        have hp : p.2 = true := by
          cases hp : p.2
          · exact absurd (.inl hp) hc
          · rfl
        have h4 := h2 hp
        have : ¬ (A.n = 0 ∨ 0 < (item near 0 x).n ∧ (item near 0 x).d < A.d) := by
          rintro (h | ⟨_, h⟩)
          · rw [h1.2 h] at hp; cases hp
          · exact hc (.inr (by omega))
        rw [if_neg this]
        exact h4
    · intro hp
      unfold bestS at hp ⊢
      split at hp
      · cases hp
      · rename_i h
        exact absurd (.inl hp) h
theorem near_is (l : List Nat) (lk : Nat → Nat) (near : Nat → Int) (bad : Nat) (h6 : l.length ≤ 6) : (bestF near (DD l lk bad)).1 = nearC (findR l lk near bad) ∧ (bestF near (DD l lk bad)).2 = decide (0 < (findR l lk near bad).n) := by
  have := best_is near h6 (DD l lk bad) (noneC, false) Wy.zero (fun x hx => (DD_mem hx).1) (by simp [Wy.zero]) (fun h => by cases h) (fun _ => rfl)
  rw [findR_sum]
  exact this
/-- None is nearer than the best. -/
theorem best_le (near : Nat → Int) : ∀ (D : List (List Nat)) (p : (Nat → Int) × Bool) (m : Nat), (p.2 = true ∧ farN p.1 near ≤ m ∨ ∃ x ∈ D, farN (chainC x) near ≤ m) → (D.foldl (bestS near) p).2 = true ∧ farN (D.foldl (bestS near) p).1 near ≤ m
  | [], p, m, h => by
    rcases h with h | ⟨x, hx, _⟩
    · exact h
    · cases hx
  | x :: D, p, m, h => by
    rw [List.foldl_cons]
    refine best_le near D _ m ?_
    unfold bestS
    rcases h with ⟨h1, h2⟩ | ⟨y, hy, h2⟩
    · left
      split
      · rename_i hc
        rcases hc with hc | hc
        · rw [h1] at hc; cases hc
        · exact ⟨rfl, Nat.le_trans (Nat.le_of_lt hc) h2⟩
      · exact ⟨h1, h2⟩
    · rcases List.mem_cons.1 hy with rfl | hy
      · left
        split
        · exact ⟨rfl, h2⟩
        · rename_i hc
          have : p.2 = true := by
            cases hp : p.2
            · exact absurd (.inl hp) hc
            · rfl
          exact ⟨this, by
            have : ¬ farN (chainC y) near < farN p.1 near := fun h => hc (.inr h)
            omega⟩
      · exact .inr ⟨y, hy, h2⟩
theorem near_own (l : List Nat) (lk : Nat → Nat) (c : Nat → Int) (bad : Nat) (h6 : l.length ≤ 6) (ha : allB (passB l lk c bad) = true) : ∀ j, j < 6 → nearC (findR l lk c bad) j = c j := by
  obtain ⟨x, hx, hc⟩ := (admits_is l lk c bad h6).1 ha
  have h0 : farN (chainC x) c ≤ 0 := by rw [Nat.le_zero, farN_zero]; exact hc
  have h1 := best_le c (DD l lk bad) (noneC, false) 0 (.inr ⟨x, hx, h0⟩)
  have h2 := (near_is l lk c bad h6).1
  have h3 : farN (bestF c (DD l lk bad)).1 c = 0 := Nat.le_zero.1 h1.2
  rw [h2, farN_zero] at h3
  exact h3
end Go.Proofs.Ytioclbkgfbjpdaa
