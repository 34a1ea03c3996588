/- Layer 18: what the search finds, as a list of chains (pure). -/
import Derived.Test.YtioclbkgfbjpdaaSw8
import Derived.Test.YtioclbkgfbjpdaaTn3
namespace Go.Proofs.Ytioclbkgfbjpdaa
open Bs
set_option linter.unusedVariables false
set_option linter.unusedSimpArgs false
/-- The units that may take a role. -/
def alB (l : List Nat) (bad : Nat) : Nat → Nat := fun r => l.getD r 0 &&& (65535 - bad)
/-- All chains, the least first. -/
def DD (l : List Nat) (lk : Nat → Nat) (bad : Nat) : List (List Nat) := dfs (vOf (alB l bad)) (lOf lk) l.length 0 (fun _ => true)
theorem has_all : ∀ u, u < 16 → has 65535 u = true := by decide
theorem dfs_congr (v L : Nat → Nat → Bool) : ∀ (k r : Nat) (ok ok' : Nat → Bool), (∀ u, u < 16 → ok u = ok' u) → dfs v L k r ok = dfs v L k r ok'
  | 0, _, _, _, _ => rfl
  | k + 1, r, ok, ok', h => by
    show ((List.range 16).filter _).flatMap _ = ((List.range 16).filter _).flatMap _
    congr 1
    refine List.filter_congr fun u hu => ?_
    rw [h u (List.mem_range.1 hu)]
theorem findR_sum (l : List Nat) (lk : Nat → Nat) (near : Nat → Int) (bad : Nat) : findR l lk near bad = sumW ((DD l lk bad).map (item near 0)) := by
  unfold findR DD
  rw [found, fromP_dfs]
  congr 2
  exact dfs_congr _ _ _ _ _ _ has_all
theorem findR_n (l : List Nat) (lk : Nat → Nat) (near : Nat → Int) (bad : Nat) : (findR l lk near bad).n = (DD l lk bad).length := by
  rw [findR_sum, sum_n, List.length_map]
  intro z hz
  obtain ⟨x, _, rfl⟩ := List.mem_map.1 hz
  exact item_n near 0 x
theorem dfs_mem (v L : Nat → Nat → Bool) : ∀ (k r : Nat) (ok : Nat → Bool) (x : List Nat), x ∈ dfs v L k r ok → x.length = k ∧ ∀ u ∈ x, u < 16
  | 0, _, _, x, h => by
    have : x = [] := by simpa [dfs] using h
    subst this
    exact ⟨rfl, by simp⟩
  | k + 1, r, ok, x, h => by
    obtain ⟨u, hu, hx⟩ := List.mem_flatMap.1 h
    obtain ⟨y, hy, rfl⟩ := List.mem_map.1 hx
    obtain ⟨h1, h2⟩ := dfs_mem v L k (r + 1) (L u) y hy
    have h3 := List.mem_range.1 (List.mem_filter.1 hu).1
    exact ⟨by simp [h1], fun t ht => by rcases List.mem_cons.1 ht with rfl | ht; exact h3; exact h2 t ht⟩
theorem DD_mem {l : List Nat} {lk : Nat → Nat} {bad : Nat} {x : List Nat} (h : x ∈ DD l lk bad) : x.length = l.length ∧ ∀ u ∈ x, u < 16 := dfs_mem _ _ _ _ _ _ h
/-- A chain's numbers. -/
def chainC (x : List Nat) : Nat → Int := fun j => if j < x.length then ((x.getD j 0 : Nat) : Int) else -1
theorem item_b (near : Nat → Int) : ∀ (x : List Nat) (r j : Nat), (item near r x).b j = if r ≤ j ∧ j < r + x.length then ((x.getD (j - r) 0 : Nat) : Int) else -1
  | [], r, j => by
    rw [if_neg (by rintro ⟨h1, h2⟩; simp at h2; omega)]; rfl
  | u :: x, r, j => by
    show (if j = r then ((u : Nat) : Int) else (item near (r + 1) x).b j) = _
    by_cases e : j = r
    · subst e
      rw [if_pos rfl, if_pos ⟨Nat.le_refl _, by simp⟩, Nat.sub_self]
      rfl
    · rw [if_neg e, item_b near x (r + 1) j]
      simp only [List.length_cons]
      by_cases h : r + 1 ≤ j ∧ j < r + 1 + x.length
      · rw [if_pos h, if_pos ⟨by omega, by omega⟩, show j - r = (j - (r + 1)) + 1 by omega]
        rfl
      · rw [if_neg h, if_neg (fun h' => h ⟨by omega, by omega⟩)]
theorem item_chain (near : Nat → Int) (x : List Nat) : (item near 0 x).b = chainC x := by
  funext j
  rw [item_b]
  unfold chainC
  simp
theorem item_dn : ∀ (x : List Nat) (r : Nat), (item noneC r x).d = x.length
  | [], r => rfl
  | u :: x, r => by
    show (if ((u : Nat) : Int) ≠ noneC r then (item noneC (r + 1) x).d + 1 else (item noneC (r + 1) x).d) = _
    rw [if_pos (by unfold noneC; omega), item_dn x (r + 1)]
    rfl
theorem fold_same {d : Nat} : ∀ (ys : List Wy) (x : Wy), 0 < x.n → x.d = d → (∀ y ∈ ys, y.d = d) → (ys.foldl Wy.or x).b = x.b
  | [], _, _, _, _ => rfl
  | y :: ys, x, hx, hd, hy => by
    have e : (x.or y) = ⟨x.n + y.n, x.b, x.d⟩ := by
      unfold Wy.or
      rw [if_neg]
      rintro (h | ⟨_, h⟩)
      · omega
      · have := hy y (by simp); omega
    rw [List.foldl_cons, e]
    exact fold_same (d := d) ys _ (by dsimp only; omega) hd (fun z hz => hy z (by simp [hz]))
/-- The first chain. -/
def headC (D : List (List Nat)) : Nat → Int := match D with
  | [] => noneC
  | x :: _ => chainC x
theorem search_is (l : List Nat) (lk : Nat → Nat) (bad : Nat) : nearC (findR l lk noneC bad) = headC (DD l lk bad) := by
  unfold nearC
  have hn := findR_n l lk noneC bad
  cases hD : DD l lk bad with
  | nil =>
    rw [hD] at hn
    rw [if_pos (by rw [hn]; rfl)]
    rfl
  | cons x D =>
    rw [hD] at hn
    rw [if_neg (by rw [hn]; simp), findR_sum, hD]
    show ((D.map (item noneC 0)).foldl Wy.or (Wy.zero.or (item noneC 0 x))).b = chainC x
    rw [Wy.zero_or, fold_same (d := l.length) _ _ (by rw [item_n]; decide) (by rw [item_dn]; exact (DD_mem (bad := bad) (lk := lk) (l := l) (by rw [hD]; simp)).1) (fun y hy => by
      obtain ⟨z, hz, rfl⟩ := List.mem_map.1 hy
      rw [item_dn]
      exact (DD_mem (bad := bad) (lk := lk) (l := l) (by rw [hD]; simp [hz])).1), item_chain]
/-- With fewer units that may be taken. -/
theorem dfs_filter (v v' L : Nat → Nat → Bool) (m : Nat → Bool) (hv : ∀ r u, u < 16 → v' r u = (v r u && m u)) : ∀ (k r : Nat) (ok : Nat → Bool), dfs v' L k r ok = (dfs v L k r ok).filter (fun x => x.all m)
  | 0, _, _ => rfl
  | k + 1, r, ok => by
    show ((List.range 16).filter fun u => ok u && v' r u).flatMap (fun u => (dfs v' L k (r + 1) (L u)).map (u :: ·)) = (((List.range 16).filter fun u => ok u && v r u).flatMap fun u => (dfs v L k (r + 1) (L u)).map (u :: ·)).filter (fun x => x.all m)
    rw [List.filter_flatMap]
    have e1 : ((List.range 16).filter fun u => ok u && v' r u) = ((List.range 16).filter fun u => (ok u && v r u) && m u) := by
      refine List.filter_congr fun u hu => ?_
      rw [hv r u (List.mem_range.1 hu), Bool.and_assoc]
    rw [e1, ← filter_flat (fun u => ok u && v r u) m]
    congr 1
    funext u
    rw [List.filter_map]
    have e2 : ((fun x : List Nat => x.all m) ∘ (u :: ·)) = fun x => m u && x.all m := by funext x; rfl
    rw [e2]
    cases hm : m u
    · simp
    · simp [dfs_filter v v' L m hv k (r + 1) (L u)]
theorem has_and (a b u : Nat) (h : u < 16) : has (a &&& b) u = (has a u && has b u) := by
  rw [has_div _ _ h, has_div _ _ h, has_div _ _ h]
  have e : ∀ x : Nat, decide (x / 2 ^ u % 2 = 1) = x.testBit u := by
    intro x
    rw [Nat.testBit_eq_decide_div_mod_eq]
  rw [e, e, e, Nat.testBit_and]
theorem has_or (a b u : Nat) (h : u < 16) : has (a ||| b) u = (has a u || has b u) := by
  rw [has_div _ _ h, has_div _ _ h, has_div _ _ h]
  have e : ∀ x : Nat, decide (x / 2 ^ u % 2 = 1) = x.testBit u := by
    intro x
    rw [Nat.testBit_eq_decide_div_mod_eq]
  rw [e, e, e, Nat.testBit_or]
theorem has_not (b u : Nat) (hb : b < 65536) (h : u < 16) : has (65535 - b) u = !has b u := by
  rw [has_div _ _ h, has_div _ _ h]
  have e : ∀ x : Nat, decide (x / 2 ^ u % 2 = 1) = x.testBit u := by
    intro x
    rw [Nat.testBit_eq_decide_div_mod_eq]
  rw [e, e, show 65535 - b = 2 ^ 16 - (b + 1) by omega, Nat.testBit_two_pow_sub_succ hb]
  simp [h]
theorem DD_more (l : List Nat) (lk : Nat → Nat) (bad more : Nat) (hb : bad < 65536) (hm : more < 65536) : DD l lk (bad ||| more) = (DD l lk bad).filter (fun x => x.all fun u => !has more u) := by
  unfold DD
  refine dfs_filter _ _ _ _ (fun r u hu => ?_) _ _ _
  unfold vOf alB
  have hbm : bad ||| more < 65536 := Nat.or_lt_two_pow (n := 16) hb hm
  rw [has_and _ _ _ hu, has_and _ _ _ hu, has_not _ _ hbm hu, has_not _ _ hb hu, has_or _ _ _ hu]
  cases has (l.getD r 0) u <;> cases has bad u <;> cases has more u <;> rfl
/-- The order of lists. -/
def lexL (a b : List Nat) : Prop := ∃ i, (∀ j, j < i → a.getD j 0 = b.getD j 0) ∧ a.getD i 0 < b.getD i 0
theorem dfs_sorted (v L : Nat → Nat → Bool) : ∀ (k r : Nat) (ok : Nat → Bool), (dfs v L k r ok).Pairwise lexL
  | 0, _, _ => by simp [dfs]
  | k + 1, r, ok => by
    show List.Pairwise lexL (((List.range 16).filter fun u => ok u && v r u).flatMap fun u => (dfs v L k (r + 1) (L u)).map (u :: ·))
    rw [List.pairwise_flatMap]
    refine ⟨fun u _ => ?_, ?_⟩
    · rw [List.pairwise_map]
      refine (dfs_sorted v L k (r + 1) (L u)).imp fun {a b} h => ?_
      obtain ⟨i, h1, h2⟩ := h
      refine ⟨i + 1, fun j hj => ?_, h2⟩
      cases j with
      | zero => rfl
      | succ j => exact h1 j (by omega)
    · refine List.Pairwise.filter _ (List.Pairwise.imp (R := fun a b => a < b) (fun {a b} hab => ?_) List.pairwise_lt_range)
      intro x hx y hy
      obtain ⟨x', _, rfl⟩ := List.mem_map.1 hx
      obtain ⟨y', _, rfl⟩ := List.mem_map.1 hy
      exact ⟨0, fun j hj => absurd hj (by omega), hab⟩
theorem DD_sorted (l : List Nat) (lk : Nat → Nat) (bad : Nat) : (DD l lk bad).Pairwise lexL := dfs_sorted _ _ _ _ _
/-- The least with more bad units is not less. -/
theorem head_more {l : List Nat} {lk : Nat → Nat} {bad more : Nat} (hb : bad < 65536) (hm : more < 65536) {i : Nat} (h1 : DD l lk (bad ||| more) ≠ []) (h2 : ∀ j, j < i → headC (DD l lk bad) j = headC (DD l lk (bad ||| more)) j) (h3 : headC (DD l lk bad) i ≠ headC (DD l lk (bad ||| more)) i) : headC (DD l lk bad) i < headC (DD l lk (bad ||| more)) i := by
  have hs := DD_sorted l lk bad
  have hf := DD_more l lk bad more hb hm
  cases hA : DD l lk bad with
  | nil => rw [hA] at hf; exact absurd hf h1
  | cons x A =>
    cases hB : DD l lk (bad ||| more) with
    | nil => exact absurd hB h1
    | cons y B =>
      have hym : y ∈ DD l lk bad := by
        have : y ∈ (DD l lk bad).filter (fun x => x.all fun u => !has more u) := by rw [← hf, hB]; simp
        exact (List.mem_filter.1 this).1
      have hyl := (DD_mem hym).1
      have hxl := (DD_mem (show x ∈ DD l lk bad by rw [hA]; simp)).1
      rw [hA, hB] at h2 h3
      rw [hA] at hym hs
      show chainC x i < chainC y i
      have h2 : ∀ j, j < i → chainC x j = chainC y j := h2
      have h3 : chainC x i ≠ chainC y i := h3
      rcases List.mem_cons.1 hym with rfl | hym
      · exact absurd rfl h3
      · obtain ⟨k, k1, k2⟩ := (List.pairwise_cons.1 hs).1 y hym
        unfold chainC at h2 h3 ⊢
        rw [hxl, hyl] at *
        have hi : i < l.length := by
          rcases Nat.lt_or_ge i l.length with h | h
          · exact h
          · rw [if_neg (by omega), if_neg (by omega)] at h3; exact absurd rfl h3
        rw [if_pos hi, if_pos hi] at h3 ⊢
        have hki : k = i := by
          rcases Nat.lt_trichotomy k i with h | h | h
          · have := h2 k h
            rw [if_pos (by omega), if_pos (by omega)] at this
            omega
          · exact h
          · have := k1 i h
            omega
        subst hki
        omega
theorem chain_units : ∀ (x : List Nat) (m : Nat), (∀ u ∈ x, u < 16) → x.length ≤ 6 → m < 65536 → unitsS (chainC x) 6 &&& m = 0 → x.all (fun u => !has m u) = true := by
  intro x m hx hl hm h
  rw [List.all_eq_true]
  intro u hu
  obtain ⟨i, hi⟩ := List.mem_iff_getElem?.1 hu
  have hil := (List.getElem?_eq_some_iff.1 hi).1
  have key : ∀ k, i < k → k ≤ 6 → has (unitsS (chainC x) k) u = true := by
    intro k
    induction k with
    | zero => intro h; omega
    | succ k ih =>
      intro h1 h2
      show has (unitsS (chainC x) k ||| bit1 (chainC x k)) u = true
      rw [has_or _ _ _ (hx u hu)]
      rcases Nat.lt_or_ge i k with h3 | h3
      · rw [ih h3 (by omega)]; rfl
      · obtain rfl : i = k := by omega
        have e : chainC x i = ((u : Nat) : Int) := by
          unfold chainC
          rw [if_pos hil]
          simp [List.getD, hi]
        have e2 : bit1 ((u : Nat) : Int) = 2 ^ u := by
          unfold bit1
          rw [if_pos ⟨by omega, by have := hx u hu; omega⟩]
          simp
        have e3 : has (2 ^ u) u = true := by
          rw [has_div _ _ (hx u hu), Nat.div_self (Nat.two_pow_pos u)]
          decide
        rw [e, e2, e3, Bool.or_true]
  have h6 := key 6 (by omega) (Nat.le_refl _)
  have h7 : has (unitsS (chainC x) 6 &&& m) u = false := by rw [h, has_div _ _ (hx u hu)]; simp
  rw [has_and _ _ _ (hx u hu), h6, Bool.true_and] at h7
  rw [h7]; rfl
theorem head_stays {l : List Nat} {lk : Nat → Nat} {bad more : Nat} (hb : bad < 65536) (hm : more < 65536) (h6 : l.length ≤ 6) (h1 : DD l lk bad ≠ []) (h2 : unitsS (headC (DD l lk bad)) 6 &&& more = 0) : DD l lk (bad ||| more) ≠ [] ∧ headC (DD l lk (bad ||| more)) = headC (DD l lk bad) := by
  have hf := DD_more l lk bad more hb hm
  cases hA : DD l lk bad with
  | nil => exact absurd hA h1
  | cons x A =>
    have hx := DD_mem (show x ∈ DD l lk bad by rw [hA]; simp)
    rw [hA] at h2 hf
    have h2 : unitsS (chainC x) 6 &&& more = 0 := h2
    have := chain_units x more hx.2 (by omega) hm h2
    rw [List.filter_cons, if_pos this] at hf
    rw [hf]
    exact ⟨by simp, rfl⟩
theorem len_more (l : List Nat) (lk : Nat → Nat) (bad more : Nat) (hb : bad < 65536) (hm : more < 65536) : (DD l lk (bad ||| more)).length ≤ (DD l lk bad).length := by
  rw [DD_more l lk bad more hb hm]
  exact List.length_filter_le _ _
theorem headC_ok (l : List Nat) (lk : Nat → Nat) (bad : Nat) : ∀ k, -128 ≤ headC (DD l lk bad) k ∧ headC (DD l lk bad) k < 128 := by
  intro k
  cases hA : DD l lk bad with
  | nil => show -128 ≤ (-1 : Int) ∧ (-1 : Int) < 128; omega
  | cons x A =>
    have hx := DD_mem (show x ∈ DD l lk bad by rw [hA]; simp)
    show -128 ≤ chainC x k ∧ chainC x k < 128
    unfold chainC
    split
    · rename_i hk
      have := hx.2 (x.getD k 0) (by rw [List.getD, List.getElem?_eq_getElem hk]; exact List.getElem_mem _)
      omega
    · omega
end Go.Proofs.Ytioclbkgfbjpdaa
