/- Layer 16: sleeps: what the changes of one step say (pure). -/
import Derived.Test.YtkgeeohgfbacaaaLaw16g
namespace Go.Proofs.Ytkgeeohgfbacaaa
open Go.RowKit Go.Own
set_option linter.unusedVariables false
set_option linter.unusedSimpArgs false
theorem Mn.chgs_more (p : Mn) (ps : Nat → Int) : ∀ n k, k ≤ n → ∃ l, p.chgs ps n = p.chgs ps k ++ l
  | 0, k, h => ⟨[], by rw [show k = 0 by omega, List.append_nil]⟩
  | n + 1, k, h => by
    by_cases e : k = n + 1
    · subst e; exact ⟨[], by simp⟩
    · obtain ⟨l, hl⟩ := p.chgs_more ps n k (by omega)
      exact ⟨l ++ (if p.ch ps n = true then [⟨n, (p.x n).st, (p.nx ps n).st, p.arg ps n⟩] else []), by rw [Mn.chgs, hl, List.append_assoc]⟩
/-- The change of a place stands where the changes ahead of it end. -/
theorem Mn.chgs_at (p : Mn) (ps : Nat → Int) {n k : Nat} (h : k < n) (hc : p.ch ps k = true) : (p.chgs ps n)[(p.chgs ps k).length]? = some ⟨k, (p.x k).st, (p.nx ps k).st, p.arg ps k⟩ := by
  obtain ⟨l, hl⟩ := p.chgs_more ps n (k + 1) h
  rw [hl, Mn.chgs, if_pos hc, List.append_assoc, List.getElem?_append_right (Nat.le_refl _), Nat.sub_self]
  rfl
/-- Where no place changes, nothing is added. -/
theorem Mn.chgs_none (p : Mn) (ps : Nat → Int) : ∀ k d, (∀ i, k ≤ i → i < k + d → p.ch ps i = false) → p.chgs ps (k + d) = p.chgs ps k
  | _, 0, _ => rfl
  | k, d + 1, h => by
    rw [show k + (d + 1) = (k + d) + 1 from rfl, Mn.chgs, if_neg (by rw [h (k + d) (by omega) (by omega)]; decide), List.append_nil]
    exact p.chgs_none ps k d fun i hi hj => h i hi (by omega)
/-- The next place that changes, if there is one. -/
theorem Mn.chgs_next (p : Mn) (ps : Nat → Int) (n k : Nat) (hk : k ≤ n) : (∀ i, k ≤ i → i < n → p.ch ps i = false) ∨ ∃ j, k ≤ j ∧ j < n ∧ p.ch ps j = true ∧ ∀ i, k ≤ i → i < j → p.ch ps i = false := by
  induction n with
  | zero => exact .inl fun i hi hj => absurd hj (by omega)
  | succ n ih =>
    by_cases e : k = n + 1
    · exact .inl fun i hi hj => absurd hj (by omega)
    rcases ih (by omega) with h | ⟨j, h1, h2, h3, h4⟩
    · cases hc : p.ch ps n with
      | false =>
        exact .inl fun i hi hj => by
          by_cases e2 : i = n
          · subst e2; exact hc
          · exact h i hi (by omega)
      | true => exact .inr ⟨n, by omega, by omega, hc, fun i hi hj => h i hi hj⟩
    · exact .inr ⟨j, h1, by omega, h3, h4⟩
/-- One that doesn't change keeps its status. -/
theorem Mn.ch_no (p : Mn) (ps : Nat → Int) {k : Nat} (h : p.ch ps k = false) : (p.nx ps k).st = (p.x k).st := by
  by_cases he : (p.x k).r.en = true
  · rw [Mn.ch, he, Bool.true_and, decide_eq_false_iff_not] at h
    exact Classical.byContradiction h
  · unfold Mn.nx; rw [if_neg he]
/-- A change: of a rule that is enabled, into another status, which isn't 0. -/
theorem Mn.ch_yes (p : Mn) (ps : Nat → Int) {k : Nat} (h : p.ch ps k = true) (hok : (p.x k).ok) : (p.x k).r.en = true ∧ (p.nx ps k).st ≠ (p.x k).st ∧ (p.nx ps k).st ≠ 0 := by
  rw [Mn.ch, Bool.and_eq_true, decide_eq_true_eq] at h
  refine ⟨h.1, h.2, ?_⟩
  have h1 := h.2
  have hr := (Rl.right_rep hok.rt).1
  unfold Mn.nx at h1 ⊢
  rw [if_pos h.1] at h1 ⊢
  obtain ⟨q, hq⟩ : ∃ q, q = p.x k := ⟨_, rfl⟩
  obtain ⟨v, hv⟩ : ∃ v, v = p.arg ps k := ⟨_, rfl⟩
  rw [← hq] at hr h1 ⊢
  rw [← hv] at h1 ⊢
  change (if timesOf q.cand q.times (q.look v) q.r.rep = q.r.rep then q.look v else q.st) ≠ q.st at h1
  show (if timesOf q.cand q.times (q.look v) q.r.rep = q.r.rep then q.look v else q.st) ≠ 0
  by_cases e : timesOf q.cand q.times (q.look v) q.r.rep = q.r.rep
  · rw [if_pos e]
    intro h0
    rw [h0] at e
    unfold timesOf at e
    rw [if_pos rfl] at e
    omega
  · rw [if_neg e] at h1
    exact absurd rfl h1
/-- The statuses when the changes of the first k places have been told. -/
def Mn.mix (p : Mn) (ps : Nat → Int) (k : Nat) (i : Nat) : Int := if i < p.n then (if i < k then (p.nx ps i).st else (p.x i).st) else 0
theorem Mn.mix_skip (p : Mn) (ps : Nat → Int) {k j : Nat} (hkj : k ≤ j) (h : ∀ i, k ≤ i → i < j → p.ch ps i = false) : p.mix ps k = p.mix ps j := by
  funext i
  unfold Mn.mix
  split
  · by_cases h1 : i < k
    · rw [if_pos h1, if_pos (by omega)]
    · rw [if_neg h1]
      by_cases h2 : i < j
      · rw [if_pos h2, p.ch_no ps (h i (by omega) h2)]
      · rw [if_neg h2]
  · rfl
/-- A step leaves the rules, and what may be. -/
theorem Mn.stepTo_ok (p : Mn) (ps : Nat → Int) (hok : p.ok) (hps : ∀ i, i < 16 → -2147483648 ≤ ps i ∧ ps i ≤ 2147483647) : (p.stepTo ps p.n).ok ∧ (p.stepTo ps p.n).n = p.n ∧ ∀ i, ((p.stepTo ps p.n).x i).r = (p.x i).r := by
  have hnr : ∀ i, (p.nx ps i).r = (p.x i).r := fun i => by unfold Mn.nx; split <;> rfl
  refine ⟨⟨hok.n, fun i hi => ?_⟩, rfl, fun i => ?_⟩
  · show (if i < p.n then p.nx ps i else p.x i).ok
    rw [if_pos (show i < p.n from hi)]
    unfold Mn.nx
    split
    · have h1 := (hok.x i (show i < p.n from hi))
      have h2 := (Rl.right_rep h1.rt).2
      simp only [Df.right, Bool.and_eq_true, decide_eq_true_eq] at h2
      have h3 := hps (p.x i).r.d.p.toNat (by omega)
      exact Wt.step_ok h1 h3.1 h3.2
    · exact hok.x i (show i < p.n from hi)
  · show (if i < p.n then p.nx ps i else p.x i).r = _
    split
    · exact hnr i
    · rfl
theorem fit_ints {w : World} {k : IntKind} : ∀ {n : Nat} {cs : List Value}, Fit w (List.replicate n (.int k)) cs → ∃ z : List Int, cs = z.map (Value.int k) ∧ z.length = n ∧ ∀ x, x ∈ z → (Lit.int k x).wf = true
  | 0, cs, h => ⟨[], fit_nil h, rfl, fun x hx => absurd hx (by simp)⟩
  | n + 1, cs, h => by
    obtain ⟨v, vs, rfl, ⟨x, rfl, hx⟩, h2⟩ := fit_cons (k := .int k) (ks := List.replicate n (.int k)) h
    obtain ⟨z, rfl, hl, hz⟩ := fit_ints h2
    refine ⟨x :: z, rfl, by simp [hl], fun y hy => ?_⟩
    rcases List.mem_cons.1 hy with rfl | h3
    · exact hx
    · exact hz y h3
/-- A slice of parameters, cycle by cycle. -/
structure PaS (w : World) (a : Option Addr) (len cap : Nat) (P : Nat → Nat → Int) : Prop where
  le : len ≤ cap
  top : cap ≤ maxLen
  ok : ∀ i, i < len → ∀ j, j < 16 → -2147483648 ≤ P i j ∧ P i j ≤ 2147483647
  at_ : 0 < len → ∃ b off, a = some ⟨b, off, none⟩ ∧ b < w.heap.size ∧ ∀ i, i < len → w.rangeAt b (off + i * 16) (pcs (P i)).toList
theorem pas_flat {w : World} {a : Option Addr} {len cap : Nat} (h : IsFlat (List.replicate 16 (.int .i32)) w a len cap) : ∃ P : Nat → Nat → Int, PaS w a len cap P := by
  obtain ⟨h1, h2, _, h4⟩ := h
  by_cases h0 : 0 < len
  · obtain ⟨b, off, e, hb, hx⟩ := h4 h0
    have each : ∀ i, i < len → ∃ ps : Nat → Int, w.rangeAt b (off + i * 16) (pcs ps).toList ∧ ∀ j, j < 16 → -2147483648 ≤ ps j ∧ ps j ≤ 2147483647 := by
      intro i hi
      obtain ⟨cs, hf, hc⟩ := hx i hi
      obtain ⟨z, rfl, hl, hz⟩ := fit_ints hf
      have hat : ∀ j, j < 16 → (z.map (Value.int .i32))[j]? = some (.int .i32 (z.getD j 0)) := fun j hj => by
        have : j < z.length := by omega
        simp [List.getD, this]
      refine ⟨fun j => z.getD j 0, fun j v hv => hc j v ?_, fun j hj => ?_⟩
      · have hj : j < 16 := by
          have := (List.getElem?_eq_some_iff.1 hv).1
          rw [Array.length_toList, pcs_size] at this
          exact this
        rw [Array.getElem?_toList, pcs_at _ hj] at hv
        rw [hat j hj]
        exact hv
      · have hjl : j < z.length := by omega
        have := bounds_i32 (hz (z[j]) (List.getElem_mem hjl))
        simpa [List.getD, hjl] using this
    classical
    refine ⟨fun i => if hi : i < len then Classical.choose (each i hi) else fun _ => 0, h1, h2, fun i hi => ?_, fun _ => ⟨b, off, e, hb, fun i hi => ?_⟩⟩
    · simp only [hi, dif_pos]
      exact (Classical.choose_spec (each i hi)).2
    · simp only [hi, dif_pos]
      exact (Classical.choose_spec (each i hi)).1
  · exact ⟨fun _ _ => 0, h1, h2, fun i hi => absurd hi (by omega), fun h => absurd h h0⟩
end Go.Proofs.Ytkgeeohgfbacaaa
