/- Layer 18: ways add up to chains (pure): what the search from the last role back finds is what trying all chains finds. -/
import Derived.Test.YtioclbkgfbjpdaaSw2
namespace Go.Proofs.Ytioclbkgfbjpdaa
set_option linter.unusedVariables false
set_option linter.unusedSimpArgs false
/-- Nothing, or some. -/
def Wy.good (x : Wy) : Prop := x = Wy.zero ∨ 0 < x.n
theorem Wy.zero_or (x : Wy) : Wy.zero.or x = x := by
  unfold Wy.or
  rw [if_pos (.inl rfl)]
  cases x
  simp [Wy.zero]
theorem Wy.or_zero {x : Wy} (h : x.good) : x.or Wy.zero = x := by
  rcases h with rfl | h
  · exact Wy.zero_or _
  · unfold Wy.or
    rw [if_neg (by rintro (h1 | ⟨h1, _⟩); omega; simp [Wy.zero] at h1)]
    cases x
    simp [Wy.zero]
theorem Wy.or_good {x y : Wy} (hx : x.good) (hy : y.good) : (x.or y).good := by
  rcases hx with rfl | hx
  · rw [Wy.zero_or]; exact hy
  · right
    unfold Wy.or
    split <;> (dsimp only; omega)
theorem Wy.or_assoc (x y z : Wy) : (x.or y).or z = x.or (y.or z) := by
  obtain ⟨a, b, c⟩ := x
  obtain ⟨d, e, f⟩ := y
  obtain ⟨g, h, i⟩ := z
  unfold Wy.or
  dsimp only
  by_cases h1 : a = 0
  · subst h1
    simp only [true_or, if_true, Nat.zero_add]
  · by_cases h2 : d = 0
    · subst h2
      simp [h1]
    · by_cases h3 : g = 0
      · subst h3
        by_cases h4 : f < c <;> simp [h1, h2, h4, Nat.pos_of_ne_zero, Nat.add_assoc] <;> omega
      · have p2 : 0 < d := by omega
        have p3 : 0 < g := by omega
        by_cases h4 : f < c
        · by_cases h5 : i < f
          · have h6 : i < c := by omega
            simp [h1, h2, h4, h5, h6, p2, p3, Nat.add_assoc]
          · simp [h1, h2, h4, h5, p2, p3, Nat.add_assoc]
        · by_cases h5 : i < f
          · by_cases h6 : i < c <;> simp [h1, h2, h4, h5, h6, p2, p3, Nat.add_assoc]
          · have h6 : ¬ i < c := by omega
            simp [h1, h2, h4, h5, h6, p2, p3, Nat.add_assoc]
def sumW (l : List Wy) : Wy := l.foldl Wy.or Wy.zero
theorem foldl_or : ∀ (l : List Wy) (x : Wy), x.good → (∀ y ∈ l, y.good) → l.foldl Wy.or x = x.or (sumW l)
  | [], x, hx, _ => (Wy.or_zero hx).symm
  | y :: l, x, hx, hl => by
    have hy := hl y (by simp)
    have hl' : ∀ z ∈ l, z.good := fun z hz => hl z (by simp [hz])
    have e : sumW (y :: l) = y.or (sumW l) := by
      unfold sumW
      rw [List.foldl_cons, Wy.zero_or]
      exact foldl_or l y hy hl'
    rw [List.foldl_cons, foldl_or l _ (Wy.or_good hx hy) hl', Wy.or_assoc, e]
theorem sum_cons {y : Wy} {l : List Wy} (hy : y.good) (hl : ∀ z ∈ l, z.good) : sumW (y :: l) = y.or (sumW l) := by
  show (l.foldl Wy.or (Wy.zero.or y)) = _
  rw [Wy.zero_or]
  exact foldl_or l y hy hl
theorem sum_good : ∀ {l : List Wy}, (∀ z ∈ l, z.good) → (sumW l).good
  | [], _ => .inl rfl
  | y :: l, h => by
    rw [sum_cons (h y (by simp)) (fun z hz => h z (by simp [hz]))]
    exact Wy.or_good (h y (by simp)) (sum_good (fun z hz => h z (by simp [hz])))
theorem sum_append : ∀ {a b : List Wy}, (∀ z ∈ a, z.good) → (∀ z ∈ b, z.good) → sumW (a ++ b) = (sumW a).or (sumW b)
  | [], b, _, _ => (Wy.zero_or _).symm
  | y :: a, b, ha, hb => by
    have hy := ha y (by simp)
    have ha' : ∀ z ∈ a, z.good := fun z hz => ha z (by simp [hz])
    rw [List.cons_append, sum_cons hy (fun z hz => by rcases List.mem_append.1 hz with h | h; exact ha' z h; exact hb z h), sum_append ha' hb, sum_cons hy ha', Wy.or_assoc]
theorem sum_flat (G : Nat → List Wy) (hG : ∀ u, ∀ z ∈ G u, z.good) : ∀ l : List Nat, sumW (l.map fun u => sumW (G u)) = sumW (l.flatMap G)
  | [] => rfl
  | u :: l => by
    rw [List.map_cons, List.flatMap_cons, sum_cons (sum_good (hG u)) (fun z hz => by obtain ⟨v, _, rfl⟩ := List.mem_map.1 hz; exact sum_good (hG v)), sum_flat G hG l, sum_append (hG u) (fun z hz => by obtain ⟨v, _, h⟩ := List.mem_flatMap.1 hz; exact hG v z h)]
theorem with_or (x y : Wy) (r : Nat) (u : Int) (near : Nat → Int) : (x.or y).with r u near = (x.with r u near).or (y.with r u near) := by
  obtain ⟨a, b, c⟩ := x
  obtain ⟨d, e, f⟩ := y
  by_cases hu : u = near r
  · by_cases h1 : a = 0
    · subst h1; simp [Wy.or, Wy.with]
    · by_cases h2 : 0 < d ∧ f < c
      · simp [Wy.or, Wy.with, h1, h2, hu]
      · have h3 : ¬ (a = 0 ∨ 0 < d ∧ f < c) := by rintro (h | h); exact h1 h; exact h2 h
        simp only [Wy.or, Wy.with, if_neg h3, hu, ne_eq, not_true_eq_false, if_false]
  · by_cases h1 : a = 0
    · subst h1; simp [Wy.or, Wy.with]
    · by_cases h2 : 0 < d ∧ f < c
      · have h3 : a = 0 ∨ 0 < d ∧ f + 1 < c + 1 := .inr ⟨h2.1, by omega⟩
        simp only [Wy.or, Wy.with, if_pos (show a = 0 ∨ 0 < d ∧ f < c from .inr h2), if_pos h3, hu, ne_eq, not_false_eq_true, if_true]
      · have h3 : ¬ (a = 0 ∨ 0 < d ∧ f < c) := by rintro (h | h); exact h1 h; exact h2 h
        have h4 : ¬ (a = 0 ∨ 0 < d ∧ f + 1 < c + 1) := by rintro (h | h); exact h1 h; exact h2 ⟨h.1, by omega⟩
        simp only [Wy.or, Wy.with, if_neg h3, if_neg h4, hu, ne_eq, not_false_eq_true, if_true]
theorem with_sum (r : Nat) (u : Int) (near : Nat → Int) : ∀ (l : List Wy), (∀ z ∈ l, 0 < z.n) → l ≠ [] → (sumW l).with r u near = sumW (l.map fun z => z.with r u near)
  | [], _, h => absurd rfl h
  | [y], hl, _ => by show (Wy.zero.or y).with r u near = Wy.zero.or (y.with r u near); rw [Wy.zero_or, Wy.zero_or]
  | y :: z :: l, hl, _ => by
    have g : ∀ x ∈ z :: l, x.good := fun x hx => .inr (hl x (by simp [List.mem_cons.1 hx]))
    have g' : ∀ x ∈ (z :: l).map (fun z => z.with r u near), x.good := fun x hx => by
      obtain ⟨v, hv, rfl⟩ := List.mem_map.1 hx
      exact .inr (hl v (by simp [List.mem_cons.1 hv]))
    rw [sum_cons (.inr (hl y (by simp))) g, with_or, with_sum r u near (z :: l) (fun x hx => hl x (by simp [List.mem_cons.1 hx])) (by simp)]
    exact (sum_cons (y := y.with r u near) (.inr (hl y (by simp))) g').symm
/-- A chain's part from role r on, as ways. -/
def item (near : Nat → Int) : Nat → List Nat → Wy
  | _, [] => ⟨1, noneC, 0⟩
  | r, u :: l => (item near (r + 1) l).with r u near
theorem item_n (near : Nat → Int) : ∀ (r : Nat) (l : List Nat), (item near r l).n = 1
  | _, [] => rfl
  | r, u :: l => item_n near (r + 1) l
/-- The parts of chains from role r on, k roles: v: may it be taken?, L: is it linked? -/
def dfs (v L : Nat → Nat → Bool) : Nat → Nat → (Nat → Bool) → List (List Nat)
  | 0, _, _ => [[]]
  | k + 1, r, ok => ((List.range 16).filter fun u => ok u && v r u).flatMap fun u => (dfs v L k (r + 1) (L u)).map (u :: ·)
def fromP (v L : Nat → Nat → Bool) (near : Nat → Int) : Nat → Nat → (Nat → Bool) → Wy
  | 0, _, _ => ⟨1, noneC, 0⟩
  | k + 1, r, ok => sumW (((List.range 16).filter ok).map fun u => if v r u = true ∧ 0 < (fromP v L near k (r + 1) (L u)).n then (fromP v L near k (r + 1) (L u)).with r u near else Wy.zero)
theorem sum_n : ∀ (l : List Wy), (∀ z ∈ l, z.n = 1) → (sumW l).n = l.length
  | [], _ => rfl
  | y :: l, h => by
    have hl : ∀ z ∈ l, z.n = 1 := fun z hz => h z (by simp [hz])
    rw [sum_cons (.inr (by rw [h y (by simp)]; decide)) (fun z hz => .inr (by rw [hl z hz]; decide))]
    have e : (y.or (sumW l)).n = y.n + (sumW l).n := by unfold Wy.or; split <;> rfl
    rw [e, h y (by simp), sum_n l hl, List.length_cons, Nat.add_comm]
theorem filter_flat {β : Type} (ok v : Nat → Bool) (f : Nat → List β) : ∀ l : List Nat, (l.filter ok).flatMap (fun u => if v u = true then f u else []) = (l.filter fun u => ok u && v u).flatMap f
  | [] => rfl
  | u :: l => by
    have ih := filter_flat ok v f l
    cases h1 : ok u
    · simp [List.filter_cons, h1, ih]
    · cases h2 : v u
      · simp [List.filter_cons, h1, h2, ih]
      · simp [List.filter_cons, h1, h2, ih]
theorem fromP_dfs (v L : Nat → Nat → Bool) (near : Nat → Int) : ∀ (k r : Nat) (ok : Nat → Bool), fromP v L near k r ok = sumW ((dfs v L k r ok).map (item near r))
  | 0, r, ok => by show _ = Wy.zero.or _; rw [Wy.zero_or]; rfl
  | k + 1, r, ok => by
    have hone : ∀ (r : Nat) (l : List (List Nat)), ∀ z ∈ l.map (item near r), z.n = 1 := fun r l z hz => by
      obtain ⟨x, _, rfl⟩ := List.mem_map.1 hz
      exact item_n near r x
    have hp : ∀ u, (if v r u = true ∧ 0 < (fromP v L near k (r + 1) (L u)).n then (fromP v L near k (r + 1) (L u)).with r u near else Wy.zero) = sumW (if v r u = true then ((dfs v L k (r + 1) (L u)).map (u :: ·)).map (item near r) else []) := by
      intro u
      rw [fromP_dfs v L near k (r + 1) (L u)]
      cases hv : v r u
      · rw [if_neg (by simp), if_neg (by simp)]; rfl
      · rw [if_pos (show true = true from rfl)]
        rw [sum_n _ (hone _ _), List.length_map]
        by_cases hl : dfs v L k (r + 1) (L u) = []
        · rw [hl, if_neg (by simp)]; rfl
        · rw [if_pos ⟨rfl, List.length_pos_iff.2 hl⟩, with_sum r u near _ (fun z hz => by rw [hone _ _ z hz]; decide) (by simpa using hl), List.map_map, List.map_map]
          rfl
    show sumW (((List.range 16).filter ok).map fun u => _) = _
    simp only [hp]
    rw [sum_flat (fun u => if v r u = true then ((dfs v L k (r + 1) (L u)).map (u :: ·)).map (item near r) else []) (fun u z hz => by
      split at hz
      · exact .inr (by rw [hone _ _ z hz]; decide)
      · cases hz)]
    rw [filter_flat ok (v r) (fun u => ((dfs v L k (r + 1) (L u)).map (u :: ·)).map (item near r))]
    show _ = sumW ((((List.range 16).filter fun u => ok u && v r u).flatMap fun u => (dfs v L k (r + 1) (L u)).map (u :: ·)).map (item near r))
    rw [List.map_flatMap]
/-- What may follow a chain's beginning. -/
def okOf (L : Nat → Nat → Bool) (c : List Nat) : Nat → Bool := match c.getLast? with
  | none => fun _ => true
  | some p => L p
def bfsStep (v L : Nat → Nat → Bool) (r : Nat) (out : List (List Nat)) : List (List Nat) := out.flatMap fun c => ((List.range 16).filter fun u => okOf L c u && v r u).map fun u => c ++ [u]
/-- All chains, role by role. -/
def bfs (v L : Nat → Nat → Bool) : Nat → Nat → List (List Nat) → List (List Nat)
  | 0, _, out => out
  | k + 1, r, out => bfs v L k (r + 1) (bfsStep v L r out)
theorem bfs_dfs (v L : Nat → Nat → Bool) : ∀ (k r : Nat) (out : List (List Nat)), bfs v L k r out = out.flatMap fun c => (dfs v L k r (okOf L c)).map (c ++ ·)
  | 0, r, out => by
    show out = out.flatMap fun c => [c ++ []]
    induction out with
    | nil => rfl
    | cons c out ih => rw [List.flatMap_cons, ← ih]; simp
  | k + 1, r, out => by
    show bfs v L k (r + 1) (bfsStep v L r out) = _
    rw [bfs_dfs v L k (r + 1)]
    unfold bfsStep
    rw [List.flatMap_assoc]
    congr 1
    funext c
    rw [List.flatMap_map]
    show _ = (((List.range 16).filter fun u => okOf L c u && v r u).flatMap fun u => (dfs v L k (r + 1) (L u)).map (u :: ·)).map (c ++ ·)
    rw [List.map_flatMap]
    congr 1
    funext u
    have e : okOf L (c ++ [u]) = L u := by unfold okOf; simp
    rw [e, List.map_map]
    congr 1
    funext l
    simp
theorem bfs_all (v L : Nat → Nat → Bool) (k : Nat) : bfs v L k 0 [[]] = dfs v L k 0 (fun _ => true) := by
  rw [bfs_dfs]
  have e : okOf L [] = fun _ => true := rfl
  rw [List.flatMap_cons, List.flatMap_nil, List.append_nil, e]
  simp
end Go.Proofs.Ytioclbkgfbjpdaa
