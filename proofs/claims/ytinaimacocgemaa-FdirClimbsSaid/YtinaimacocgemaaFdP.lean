/- Layer 22: what comes again climbs: the pure part. -/
import Derived.Test.YtinaimacocgemaaFd3
namespace Go.Proofs.Ytinaimacocgemaa
set_option linter.unusedVariables false
/-- The topmost one that is allowed, of the last n; r: the one so far. -/
def tp (inh : Nat) : Nat → Option Nat → Option Nat
  | 0, r => r
  | n + 1, r => tp inh n (if al inh (4 - n) = true then some (4 - n) else r)
theorem tp_step (inh : Nat) {k : Nat} (hk : k < 5) (r : Option Nat) : tp inh (5 - k) r = tp inh (5 - (k + 1)) (if al inh k = true then some k else r) := by
  obtain ⟨n, hn⟩ : ∃ n, 5 - k = n + 1 := ⟨4 - k, by omega⟩
  rw [hn, show 5 - (k + 1) = n by omega]
  show tp inh n (if al inh (4 - n) = true then some (4 - n) else r) = _
  rw [show 4 - n = k by omega]
theorem tp_spec (inh : Nat) : ∀ (m : Nat) (r : Option Nat), m ≤ 5 → ∀ t, tp inh m r = some t → (r = some t ∧ ∀ j, 5 - m ≤ j → j < 5 → al inh j = false) ∨ (5 - m ≤ t ∧ t < 5 ∧ al inh t = true ∧ ∀ j, 5 - m ≤ j → j < 5 → al inh j = true → j ≤ t)
  | 0, r, _, t, h => .inl ⟨h, fun j h1 h2 => by omega⟩
  | n + 1, r, hm, t, h => by
    have ih := tp_spec inh n _ (by omega) t h
    by_cases ha : al inh (4 - n) = true
    · rw [if_pos ha] at ih
      rcases ih with ⟨h1, h2⟩ | ⟨h1, h2, h3, h4⟩
      · cases h1
        refine .inr ⟨by omega, by omega, ha, fun j h5 h6 h7 => ?_⟩
        rcases Nat.lt_or_ge (4 - n) j with h8 | h8
        · rw [h2 j (by omega) h6] at h7; cases h7
        · exact h8
      · refine .inr ⟨by omega, h2, h3, fun j h5 h6 h7 => ?_⟩
        rcases Nat.lt_or_ge (4 - n) j with h8 | h8
        · exact h4 j (by omega) h6 h7
        · omega
    · rw [if_neg ha] at ih
      have ha' : al inh (4 - n) = false := by cases e : al inh (4 - n); rfl; exact absurd e ha
      rcases ih with ⟨h1, h2⟩ | ⟨h1, h2, h3, h4⟩
      · refine .inl ⟨h1, fun j h5 h6 => ?_⟩
        by_cases h8 : j = 4 - n
        · rw [h8]; exact ha'
        · exact h2 j (by omega) h6
      · refine .inr ⟨by omega, h2, h3, fun j h5 h6 h7 => ?_⟩
        by_cases h8 : j = 4 - n
        · rw [h8, ha'] at h7; cases h7
        · exact h4 j (by omega) h6 h7
theorem act_spec (inh : Nat) (L C : Nat → Nat) : ∀ (m : Nat) (r : Option Nat), m ≤ 5 → (∃ k, act inh L C m r = some k ∧ 5 - m ≤ k ∧ k < 5 ∧ al inh k = true ∧ C k < L k ∧ ∀ j, 5 - m ≤ j → j < k → al inh j = true → L j ≤ C j) ∨ ((∀ j, 5 - m ≤ j → j < 5 → al inh j = true → L j ≤ C j) ∧ act inh L C m r = tp inh m r)
  | 0, r, _ => .inr ⟨fun j h1 h2 => by omega, rfl⟩
  | n + 1, r, hm => by
    show (∃ k, (if al inh (4 - n) = true then (if C (4 - n) < L (4 - n) then some (4 - n) else act inh L C n (some (4 - n))) else act inh L C n r) = some k ∧ _) ∨ (_ ∧ (if al inh (4 - n) = true then (if C (4 - n) < L (4 - n) then some (4 - n) else act inh L C n (some (4 - n))) else act inh L C n r) = tp inh n (if al inh (4 - n) = true then some (4 - n) else r))
    by_cases ha : al inh (4 - n) = true
    · rw [if_pos ha, if_pos ha]
      by_cases hc : C (4 - n) < L (4 - n)
      · rw [if_pos hc]
        exact .inl ⟨4 - n, rfl, by omega, by omega, ha, hc, fun j h1 h2 => by omega⟩
      · rw [if_neg hc]
        rcases act_spec inh L C n (some (4 - n)) (by omega) with ⟨k, h1, h2, h3, h4, h5, h6⟩ | ⟨h1, h2⟩
        · refine .inl ⟨k, h1, by omega, h3, h4, h5, fun j h7 h8 h9 => ?_⟩
          by_cases h10 : j = 4 - n
          · rw [h10]; omega
          · exact h6 j (by omega) h8 h9
        · refine .inr ⟨fun j h7 h8 h9 => ?_, h2⟩
          by_cases h10 : j = 4 - n
          · rw [h10]; omega
          · exact h1 j (by omega) h8 h9
    · rw [if_neg ha, if_neg ha]
      rcases act_spec inh L C n r (by omega) with ⟨k, h1, h2, h3, h4, h5, h6⟩ | ⟨h1, h2⟩
      · refine .inl ⟨k, h1, by omega, h3, h4, h5, fun j h7 h8 h9 => ?_⟩
        by_cases h10 : j = 4 - n
        · rw [h10] at h9; exact absurd h9 ha
        · exact h6 j (by omega) h8 h9
      · refine .inr ⟨fun j h7 h8 h9 => ?_, h2⟩
        by_cases h10 : j = 4 - n
        · rw [h10] at h9; exact absurd h9 ha
        · exact h1 j (by omega) h8 h9
/-- What those that may act from first on come to, of the first k. -/
def smk (inh first : Nat) (M : Nat → Nat) : Nat → Nat
  | 0 => 0
  | k + 1 => smk inh first M k + (if first ≤ k ∧ al inh k = true then M k else 0)
theorem smk_le (inh first : Nat) {M : Nat → Nat} {b : Nat} (h : ∀ k, M k ≤ b) : ∀ k, smk inh first M k ≤ b * k
  | 0 => by simp [smk]
  | k + 1 => by
    have := smk_le inh first h k
    have := h k
    unfold smk
    rw [Nat.mul_succ]
    split <;> omega
theorem smk_mono (inh first : Nat) {f g : Nat → Nat} : ∀ K, (∀ k, k < K → first ≤ k → al inh k = true → f k ≤ g k) → smk inh first f K ≤ smk inh first g K
  | 0, _ => Nat.le_refl _
  | k + 1, h => by
    have h1 := smk_mono inh first k (fun j hj => h j (by omega))
    unfold smk
    split
    · rename_i hc
      have := h k (by omega) hc.1 hc.2
      omega
    · omega
theorem smk_lt (inh first : Nat) {f g : Nat → Nat} : ∀ K, (∀ k, k < K → first ≤ k → al inh k = true → f k ≤ g k) → ∀ j, j < K → first ≤ j → al inh j = true → f j < g j → smk inh first f K < smk inh first g K
  | 0, _, j, hj, _, _, _ => by omega
  | k + 1, h, j, hj, h1, h2, h3 => by
    unfold smk
    by_cases e : j = k
    · subst e
      have h4 := smk_mono inh first j (f := f) (g := g) (fun i hi => h i (by omega))
      rw [if_pos ⟨h1, h2⟩, if_pos ⟨h1, h2⟩]
      omega
    · have h4 := smk_lt inh first k (fun i hi => h i (by omega)) j (by omega) h1 h2 h3
      split
      · rename_i hc
        have := h k (by omega) hc.1 hc.2
        omega
      · omega
theorem smk_same (inh first : Nat) (f : Nat → Nat) (k x : Nat) : ∀ K, K ≤ k → smk inh first (upd f k x) K = smk inh first f K
  | 0, _ => rfl
  | j + 1, h => by
    unfold smk
    rw [smk_same inh first f k x j (by omega)]
    have : upd f k x j = f j := by unfold upd; rw [if_neg (by omega)]
    rw [this]
theorem smk_upd (inh first : Nat) (f : Nat → Nat) {k : Nat} (h1 : first ≤ k) (h2 : al inh k = true) : ∀ K, k < K → smk inh first (upd f k (f k + 1)) K = smk inh first f K + 1
  | 0, h => by omega
  | j + 1, h => by
    unfold smk
    by_cases e : k = j
    · subst e
      rw [smk_same inh first f k _ k (Nat.le_refl _), if_pos ⟨h1, h2⟩, if_pos ⟨h1, h2⟩, upd_at]
      omega
    · rw [smk_upd inh first f h1 h2 j (by omega)]
      have : upd f k (f k + 1) j = f j := by unfold upd; rw [if_neg (by omega)]
      rw [this]
      omega
/-- Where the climb stands. -/
structure Clm (inh first : Nat) (M n : Nat → Nat) (top : Option Nat) (last i : Nat) : Prop where
  a : ∀ k, k < 5 → first ≤ k → al inh k = true → top ≠ some k → n k ≤ M k
  b : smk inh first n 5 = i
  c : ∀ k, n k ≤ i
  d : ∀ k, first ≤ k → k < last → al inh k = true → M k ≤ n k
  f : (∃ j, j < 5 ∧ first ≤ j ∧ al inh j = true ∧ n j < M j) → ∀ t, top = some t → n t ≤ M t
  g : first ≤ last
  h : ∀ t, top = some t → last ≤ t
  z : top = none → i = 0
theorem Clm.start (inh first : Nat) (M : Nat → Nat) (hf : first < 5) : Clm inh first M (fun _ => 0) (tp inh (5 - first) none) first 0 := by
  refine ⟨fun _ _ _ _ _ => Nat.zero_le _, ?_, fun _ => Nat.le_refl _, fun k h1 h2 => by omega, fun _ _ _ => Nat.zero_le _, Nat.le_refl _, fun t ht => ?_, fun _ => rfl⟩
  · have h := smk_le inh first (M := fun _ => 0) (b := 0) (fun _ => Nat.le_refl _) 5
    omega
  · rcases tp_spec inh (5 - first) none (by omega) t ht with ⟨h1, _⟩ | ⟨h1, _⟩
    · cases h1
    · omega
/-- None may act: none does. -/
theorem Clm.none_ {inh first : Nat} (M n : Nat → Nat) (hf : first < 5) (ht : tp inh (5 - first) none = none) : act inh M n (5 - first) none = none := by
  rcases act_spec inh M n (5 - first) none (by omega) with ⟨k, h1, h2, h3, h4, _⟩ | ⟨_, h2⟩
  · exfalso
    -- k is allowed, so there is a topmost one
    have : ∀ (m : Nat) (r : Option Nat), m ≤ 5 → 5 - m ≤ k → tp inh m r ≠ none := by
      intro m
      induction m with
      | zero => intro r _ h; omega
      | succ q ih =>
        intro r hq hk
        show tp inh q (if al inh (4 - q) = true then some (4 - q) else r) ≠ none
        by_cases e : k = 4 - q
        · rw [← e, if_pos h4]
          intro h
          clear ih
          have : ∀ (m : Nat) (x : Nat), tp inh m (some x) ≠ none := by
            intro m
            induction m with
            | zero => intro x h; cases h
            | succ p ih2 =>
              intro x
              show tp inh p (if al inh (4 - p) = true then some (4 - p) else some x) ≠ none
              split
              · exact ih2 _
              · exact ih2 _
          exact this _ _ h
        · exact ih _ (by omega) (by omega)
    exact this _ _ (by omega) (by omega) ht
  · rw [h2, ht]
/-- One step of the climb. -/
theorem Clm.step {inh first : Nat} {M n : Nat → Nat} {top : Option Nat} {last i t : Nat} (hf : first < 5) (htop : top = tp inh (5 - first) none) (ht : top = some t) (h : Clm inh first M n top last i) :
    ∃ k, act inh M n (5 - first) none = some k ∧ k < 5 ∧ last ≤ k ∧ al inh k = true ∧ (smk inh first M 5 ≤ i → k = t) ∧ (k ≠ t → n k + 1 ≤ M k) ∧ Clm inh first M (upd n k (n k + 1)) top k (i + 1) := by
  have hts : first ≤ t ∧ t < 5 ∧ al inh t = true ∧ ∀ j, first ≤ j → j < 5 → al inh j = true → j ≤ t := by
    rcases tp_spec inh (5 - first) none (by omega) t (htop.symm.trans ht) with ⟨h1, _⟩ | ⟨h1, h2, h3, h4⟩
    · cases h1
    · exact ⟨by omega, h2, h3, fun j h5 h6 h7 => h4 j (by omega) h6 h7⟩
  obtain ⟨t0, t1, t2, t3⟩ := hts
  have hn : ∀ k j, upd n k (n k + 1) j = if j = k then n k + 1 else n j := fun k j => rfl
  have hge : ∀ k j, n j ≤ upd n k (n k + 1) j := fun k j => by rw [hn]; split; (· rename_i e; rw [e]; omega); (· omega)
  rcases act_spec inh M n (5 - first) none (by omega) with ⟨k, h1, h2, h3, h4, h5, h6⟩ | ⟨h1, h2⟩
  · have hfk : first ≤ k := by omega
    have hlk : last ≤ k := by
      rcases Nat.lt_or_ge k last with hl | hl
      · have := h.d k hfk hl h4; omega
      · exact hl
    refine ⟨k, h1, h3, hlk, h4, fun hs => ?_, fun _ => h5, ?_⟩
    · -- the sum is reached: no room but at the top
      rcases Nat.decEq k t with hkt | hkt
      · exfalso
        have hnt := h.f ⟨k, h3, hfk, h4, h5⟩ t ht
        have := smk_lt inh first 5 (f := n) (g := M) (fun j hj h7 h8 => by
          by_cases e : j = t
          · rw [e]; exact hnt
          · exact h.a j hj h7 h8 (by rw [ht]; intro e2; cases e2; exact e rfl)) k h3 hfk h4 h5
        have := h.b
        omega
      · exact hkt
    · refine ⟨fun j hj h7 h8 h9 => ?_, ?_, fun j => ?_, fun j h7 h8 h9 => ?_, fun ⟨j, j1, j2, j3, j4⟩ s hs => ?_, hfk, fun s hs => ?_, fun he => by rw [ht] at he; cases he⟩
      · rw [hn]
        split
        · rename_i e; rw [e]; exact h5
        · exact h.a j hj h7 h8 h9
      · rw [smk_upd inh first n hfk h4 5 h3, h.b]
      · have := h.c j
        have := h.c k
        rw [hn]
        split <;> omega
      · have := h6 j (by omega) h8 h9
        exact Nat.le_trans this (hge k j)
      · have h10 := h.f ⟨j, j1, j2, j3, Nat.lt_of_le_of_lt (hge k j) j4⟩ s hs
        rw [hn]
        split
        · rename_i e; rw [e]; exact h5
        · exact h10
      · rw [ht] at hs; cases hs
        exact t3 k hfk h3 h4
  · rw [← htop, ht] at h2
    have hall : ∀ j, first ≤ j → j < 5 → al inh j = true → M j ≤ n j := fun j h7 h8 h9 => h1 j (by omega) h8 h9
    refine ⟨t, h2, t1, h.h t ht, t2, fun _ => rfl, fun hne => absurd rfl hne, ?_⟩
    refine ⟨fun j hj h7 h8 h9 => ?_, ?_, fun j => ?_, fun j h7 h8 h9 => ?_, fun ⟨j, j1, j2, j3, j4⟩ s hs => ?_, t0, fun s hs => ?_, fun he => by rw [ht] at he; cases he⟩
    · rw [hn]
      split
      · rename_i e; rw [e] at h9; exact absurd ht h9
      · exact h.a j hj h7 h8 h9
    · rw [smk_upd inh first n t0 t2 5 t1, h.b]
    · have := h.c j
      have := h.c t
      rw [hn]
      split <;> omega
    · exact Nat.le_trans (hall j h7 (by omega) h9) (hge t j)
    · have := hall j j2 j1 j3
      have := hge t j
      omega
    · rw [ht] at hs; cases hs; exact Nat.le_refl _
end Go.Proofs.Ytinaimacocgemaa
