/- Flo with a tail whose calm operations may float: a region that draws its order; its front as in Flo; its tail as in Mix, over a class of worlds that is chosen where the tail begins. Of whatever program. -/
import Derived.Test.YtioclbkgfbjpdaaFlo
namespace Go.Flo3
open Go.RowKit Go.Flo
set_option linter.unusedVariables false
set_option linter.unusedSimpArgs false
/-- Operations whose result hangs on their operands alone. -/
def blind (o : Oper) : Bool :=
  match o.op with
  | .move _ | .assign _ | .extract _ _ | .build _ _ => true
  | _ => false
theorem blind_calm {o : Oper} (h : blind o = true) : Mix.calm o = true := by
  obtain ⟨dst, op, type, pos, after, guard⟩ := o
  unfold blind at h
  unfold Mix.calm
  split at h
  · rename_i e; simp only at e; subst e; rfl
  · rename_i e; simp only at e; subst e; rfl
  · rename_i e; simp only at e; subst e; rfl
  · rename_i e; simp only at e; subst e; rfl
  · cases h
/-- Whatever hangs on the program alone. -/
def Steady (P : Program) {α : Type} (m : Sem α) : Prop := ∀ (v : α) (w w1 : World), m.run P w = .ok v w1 → w1 = w ∧ ∀ w', m.run P w' = .ok v w'
theorem steady_pure {P : Program} {α : Type} (a : α) : Steady P (pure a : Sem α) := fun v w w1 h => by
  simp at h ⊢
  exact ⟨h.2.symm, h.1⟩
theorem steady_bind {P : Program} {α β : Type} {m : Sem α} {f : α → Sem β} (hm : Steady P m) (hf : ∀ a, Steady P (f a)) : Steady P (m >>= f) := fun v w w1 h => by
  rw [Sem.run_bind] at h
  cases hr : m.run P w with
  | ok a w2 =>
    rw [hr] at h
    simp only [Result.andThen_ok] at h
    obtain ⟨rfl, k⟩ := hm _ _ _ hr
    obtain ⟨rfl, k2⟩ := hf a _ _ _ h
    exact ⟨rfl, fun w' => by rw [Sem.run_bind, k w', Result.andThen_ok, k2 w']⟩
  | _ => rw [hr] at h; simp [Result.andThen] at h
theorem steady_stuck {P : Program} {α : Type} (s : String) : Steady P (stuck s : Sem α) := fun v w w1 h => by simp [stuck] at h
theorem steady_info {P : Program} (t : TypeId) : Steady P (typeInfo t) := fun v w w1 h => by
  cases hi : P.info? t with
  | none => simp [typeInfo, hi, stuck] at h
  | some i =>
    simp [typeInfo, hi] at h ⊢
    exact ⟨h.2.symm, h.1⟩
theorem steady_under {P : Program} (t : TypeId) : Steady P (underlying t) := fun v w w1 h => by
  cases hi : P.underlying t with
  | none => simp [underlying, hi, stuck] at h
  | some i =>
    simp [underlying, hi] at h ⊢
    exact ⟨h.2.symm, h.1⟩
theorem steady_zero {P : Program} (t : TypeId) : Steady P (zeroValue t) := by
  unfold zeroValue
  refine steady_bind (steady_info t) fun i => ?_
  cases i.zero with
  | some v => exact steady_pure v
  | none => exact fun v w w1 h => by simp [unsupported] at h
theorem steady_size {P : Program} (t : TypeId) : Steady P (sizeOf t) := by
  unfold sizeOf
  exact steady_bind (steady_info t) fun i => steady_pure _
theorem steady_mapM {P : Program} {α β : Type} {f : α → Sem β} (hf : ∀ a, Steady P (f a)) : ∀ l : List α, Steady P (l.mapM f)
  | [] => by rw [List.mapM_nil]; exact steady_pure _
  | a :: l => by
    rw [List.mapM_cons]
    exact steady_bind (hf a) fun b => steady_bind (steady_mapM hf l) fun bs => steady_pure _
theorem steady_build {P : Program} (t : TypeId) (parts : Array (Nat × Value)) : Steady P (Instr.build t parts) := by
  unfold Instr.build
  refine steady_bind (steady_zero t) fun z => steady_bind (steady_under t) fun d => ?_
  split
  · rw [Array.mapM_eq_mapM_toList]
    refine steady_bind ?_ fun places => ?_
    · rw [map_eq_pure_bind]
      exact steady_bind (steady_mapM (fun a => steady_bind (steady_size _) fun n => steady_pure _) _) fun a => steady_pure _
    · split
      · exact steady_pure _
      · exact steady_stuck _
  · refine steady_bind (steady_size _) fun n => ?_
    split
    · exact steady_pure _
    · exact steady_stuck _
  · exact steady_stuck _
theorem blind_run {P : Program} {o : Oper} {ρ : Operand → Value} (h : blind o = true) {u : Value} {w w1 : World} (hr : (execOp ρ o).run P w = .ok (.value u) w1) (w' : World) : (execOp ρ o).run P w' = .ok (.value u) w' := by
  obtain ⟨dst, op, type, pos, after, guard⟩ := o
  unfold blind at h
  split at h
  · rename_i x e
    simp only at e
    subst e
    simp [execOp] at hr ⊢
    exact hr.1
  · rename_i x e
    simp only at e
    subst e
    simp [execOp] at hr ⊢
    exact hr.1
  · rename_i t ix e
    simp only at e
    subst e
    simp only [execOp, Instr.extract] at hr ⊢
    split at hr
    · split at hr
      · simp at hr ⊢
        exact hr.1
      · simp [stuck] at hr
    · simp [stuck] at hr
  · rename_i t ps e
    simp only at e
    subst e
    have hs : Steady P (execOp ρ ⟨dst, .build t ps, type, pos, after, guard⟩) := by
      unfold execOp
      exact steady_bind (steady_build t _) fun v => steady_pure _
    exact (hs _ _ _ hr).2 w'
  · cases h
/-- The check on the edges: below m any two are apart or ordered; whatever is from m on waits for all below m; from m on any two are ordered, or apart and one of them calm. -/
def pairsOk2 (ops : Array Oper) (tab : List Nat) (m : Nat) : Bool :=
  (List.range ops.size).all fun j => match ops[j]? with
    | none => true
    | some oj => (List.range j).all fun q => (tab.getD j 0).testBit q || (decide (j < m) && match ops[q]? with
      | none => true
      | some oq => oq.apart ops oj && oj.apart ops oq) || (decide (m ≤ q) && match ops[q]? with
      | none => true
      | some oq => oq.apart ops oj && oj.apart ops oq && (Mix.calm oq || Mix.calm oj)) || (decide (q < m) && decide (m ≤ j) && match ops[q]? with
      | none => true
      | some oq => oq.apart ops oj && oj.apart ops oq && blind oq)
def ok2 (md : Region.Mode) (ops : Array Oper) (m : Nat) : Bool :=
  Region.noSelect ops && Mix.tableOk md ops (Mix.table md ops.toList []) && pairsOk2 ops (Mix.table md ops.toList []) m

section
variable {P : Program} {ops : Array Oper} {C : World → Prop} {S : Nat → Flo.Spec} {md : Region.Mode} {m : Nat}
/-- **ONE LEXICAL WALK SERVES EVERY ORDER.** -/
theorem tail_of_mix {Q : Act → World → Prop} {Q' : Exit → Act → World → Prop} (hQ : ∀ a w, C w → Q a w → Q' .normal a w) (hB : ok2 md ops m = true) :
    ∀ (n : Nat) (rem : List Nat) (listed : Array Bool) (a : Act) (w : World), rem.length = n → rem.Pairwise (· < ·) → (∀ i ∈ rem, m ≤ i ∨ ∃ o, ops[i]? = some o ∧ blind o = true) → listed.size = ops.size →
      (∀ j, j ∈ rem ↔ listed.getD j true = false) → (∀ (j : Nat) (o : Oper) p, ops[j]? = some o → j ∉ rem → p ∈ Mix.preds md o → p ∉ rem) → C w →
      Mix.mix P ops C Q rem a w → wpAny P md ops Q' n listed a w := by
  unfold ok2 at hB
  simp only [Bool.and_eq_true] at hB
  obtain ⟨⟨hns, ht⟩, hp⟩ := hB
  have lt_of : ∀ {listed : Array Bool} {j : Nat}, listed.size = ops.size → listed.getD j true = false → j < ops.size := fun {listed j} hs h => by
    rcases Nat.lt_or_ge j listed.size with h' | h'
    · omega
    · simp [Array.getElem?_eq_none h'] at h
  intro n
  induction n with
  | zero =>
    intro rem listed a w hn _ _ hs hl _ hw h
    obtain rfl : rem = [] := List.length_eq_zero_iff.1 hn
    refine ⟨?_, hQ _ _ hw h⟩
    apply List.eq_nil_iff_forall_not_mem.2
    intro j hj
    have := (hl j).2 (mem_ready.1 hj).1
    cases this
  | succ n ih =>
    intro rem listed a w hn hpw hge hs hl hdown hw h
    obtain ⟨k, rem', rfl⟩ : ∃ k rem', rem = k :: rem' := by
      cases rem with
      | nil => simp at hn
      | cons k rem' => exact ⟨k, rem', rfl⟩
    have hk0 := (hl k).1 (by simp)
    have hks : k < ops.size := lt_of hs hk0
    have hko : ops[k]? = some ops[k] := Array.getElem?_eq_getElem hks
    have hkr : k ∈ Region.ready md ops listed := by
      refine mem_ready.2 ⟨hk0, _, hko, fun e he hb => ?_⟩
      have hlt : e.on < k := by
        have h1 := List.all_eq_true.1 (by unfold Mix.tableOk at ht; exact ht) k (List.mem_range.2 hks)
        simp only [hko, Bool.and_eq_true, List.all_eq_true] at h1
        simpa using h1.1 e.on (Mix.mem_preds.2 ⟨e, he, hb, rfl⟩)
      have hno : e.on ∉ k :: rem' := by
        intro hm
        rcases List.mem_cons.1 hm with h' | h'
        · omega
        · have := (List.pairwise_cons.1 hpw).1 _ h'
          omega
      have : listed.getD e.on true ≠ false := fun hf => hno ((hl _).2 hf)
      have hes : e.on < listed.size := by omega
      simp only [Array.getD_eq_getD_getElem?, Array.getElem?_eq_getElem hes, Option.getD_some] at this ⊢
      simpa using this
    refine ⟨fun h0 => absurd (h0 ▸ hkr) (by simp), fun i hi => ?_⟩
    obtain ⟨hi0, oi, hoi, hall⟩ := mem_ready.1 hi
    have him := (hl i).2 hi0
    obtain ⟨l1, l2, hsplit⟩ := List.append_of_mem him
    rw [hsplit] at hpw h hn hge
    have hpreds : ∀ p ∈ Mix.preds md oi, p ∉ k :: rem' := by
      intro p hpm hm
      obtain ⟨e, he, hb, rfl⟩ := Mix.mem_preds.1 hpm
      have h1 := hall e he hb
      have h2 := (hl _).1 hm
      have h3 := lt_of hs h2
      have hes : e.on < listed.size := by omega
      simp only [Array.getD_eq_getD_getElem?, Array.getElem?_eq_getElem hes, Option.getD_some] at h1 h2
      rw [h1] at h2
      cases h2
    have hfree : ∀ q ∈ l1, ∀ oq, ops[q]? = some oq → oq.apart ops oi = true ∧ oi.apart ops oq = true ∧ (Mix.calm oq = true ∨ Mix.calm oi = true) := by
      intro q hq oq hoq
      have hqi : q < i := (List.pairwise_append.1 hpw).2.2 q hq i (by simp)
      have hqm : q ∈ k :: rem' := by rw [hsplit]; simp [hq]
      have his : i < ops.size := (Array.getElem?_eq_some_iff.1 hoi).1
      have h1 := List.all_eq_true.1 (by unfold pairsOk2 at hp; exact hp) i (List.mem_range.2 his)
      simp only [hoi, List.all_eq_true] at h1
      have h2 := h1 q (List.mem_range.2 hqi)
      simp only [hoq, Bool.or_eq_true, Bool.and_eq_true, decide_eq_true_eq] at h2
      rcases h2 with ((h2 | h2) | h2) | h2
      · exact absurd hqm (Mix.table_down ht hdown i i oi (Nat.le_refl _) hoi hpreds q hqi h2)
      · refine ⟨h2.2.1, h2.2.2, .inr ?_⟩
        rcases hge i (by simp) with hmi | ⟨o, ho, hbl⟩
        · omega
        · rw [hoi] at ho
          cases ho
          exact blind_calm hbl
      · exact ⟨h2.2.1.1, h2.2.1.2, h2.2.2⟩
      · exact ⟨h2.2.1.1, h2.2.1.2, .inl (blind_calm h2.2.2)⟩
    have h1 := Mix.mix_front hoi hns l2 l1 a w hfree hw h
    refine wpOp_mono (fun a' w' h' => ?_) (Mix.mixOp_wp hw h1)
    have hnot : i ∉ l1 ++ l2 := by
      intro hm
      rcases List.mem_append.1 hm with h | h
      · have := (List.pairwise_append.1 hpw).2.2 i h i (by simp)
        omega
      · have := (List.pairwise_cons.1 (List.pairwise_append.1 hpw).2.1).1 i h
        omega
    refine ih (l1 ++ l2) _ a' w' ?_ ?_ ?_ (by simpa using hs) ?_ ?_ h'.1 h'.2
    · simp at hn ⊢; omega
    · exact hpw.sublist (List.Sublist.append (List.Sublist.refl _) (List.sublist_cons_self _ _))
    · intro j hj
      refine hge j ?_
      simp at hj ⊢
      rcases hj with h | h <;> simp [h]
    · intro j
      by_cases hji : j = i
      · subst hji
        have his : j < listed.size := by have := lt_of hs hi0; omega
        constructor
        · intro hm; exact absurd hm hnot
        · intro hm; simp [Array.getElem?_setIfInBounds_self_of_lt his] at hm
      · rw [getD_set_ne true (Ne.symm hji), ← hl j, hsplit]
        simp [hji]
    · intro j o p hjo hjn hpm hpin
      have hpin' : p ∈ k :: rem' := by rw [hsplit]; simp at hpin ⊢; rcases hpin with h | h <;> simp [h]
      by_cases hji : j = i
      · subst hji
        rw [hoi] at hjo
        cases hjo
        exact hpreds p hpm hpin'
      · refine hdown j o p hjo ?_ hpm hpin'
        rw [hsplit]
        simp at hjn ⊢
        exact ⟨hjn.1, hji, hjn.2⟩

/-- What is left of the front is blind: it may go into the tail. -/
theorem blind_into {Q' : Exit → Act → World → Prop} {Q : Act → Facts → Used → Prop} {tl : List Nat}
    (hQ : ∀ a F G w, Q a F G → At C F G w → ∃ CT : World → Prop, CT w ∧ Mix.mix P ops CT (fun a' w' => Q' .normal a' w') tl a w) :
    ∀ (rem : List Nat) (a : Act) (F : Facts) (G : Used) (w : World), (∀ i ∈ rem, ∃ o, ops[i]? = some o ∧ blind o = true) → At C F G w → fmix P ops C S Q rem a F G → ∃ CT : World → Prop, CT w ∧ Mix.mix P ops CT (fun a' w' => Q' .normal a' w') (rem ++ tl) a w
  | [], a, F, G, w, _, hw, h => hQ a F G w h hw
  | i :: rem, a, F, G, w, hb, hw, h => by
    obtain ⟨o, ho, hbl⟩ := hb i (by simp)
    simp only [fmix] at h
    unfold fOp at h
    simp only [ho] at h
    rcases h with ⟨_, v, hv, hk⟩ | ⟨hq, _⟩
    · obtain ⟨hF, hc, hf, hx⟩ := hw
      have hat : At C (F.add o.dst (avail ops o F)) G w := ⟨hF.calm _, hc, fun t => ⟨hf t, fun _ => fun t _ => hf _⟩, hx⟩
      obtain ⟨CT, hct, hm⟩ := blind_into hQ rem _ _ _ w (fun j hj => hb j (by simp [hj])) hat hk
      refine ⟨CT, hct, ?_⟩
      show Mix.mixOp P ops CT i (Mix.mix P ops CT (fun a' w' => Q' .normal a' w') (rem ++ tl)) a w
      unfold Mix.mixOp
      simp only [ho]
      unfold Mix.oneOp
      unfold Flo.Sure at hv
      split
      · rename_i hwt
        rw [if_pos hwt] at hv
        rw [if_pos (blind_calm hbl)]
        refine ⟨v, fun j => ?_, hm⟩
        have e1 := hv ⟨w, hc⟩
        cases hr : (execOp a.eval o).run P w with
        | ok n w' =>
          simp only [hr] at e1
          cases n <;> simp only at e1
          obtain ⟨rfl, rfl⟩ := e1
          rw [blind_run hbl hr j.val]
          exact ⟨rfl, rfl⟩
        | halt x w' => simp only [hr] at e1
      · rename_i hwt
        rw [if_neg hwt] at hv
        subst hv
        exact hm
    · exact absurd (.inl (blind_calm hbl)) hq

/-- **ONE WALK SERVES EVERY ORDER.** -/
theorem any_of_mix {Q' : Exit → Act → World → Prop} (hC : ∀ w w', C w → Below w.heap.size w w' → C w') (hB : ok2 md ops m = true) (hm : m ≤ ops.size) {Q : Act → Facts → Used → Prop}
    (hQ : ∀ a F G w, Q a F G → At C F G w → ∃ CT : World → Prop, CT w ∧ Mix.mix P ops CT (fun a' w' => Q' .normal a' w') (List.range' m (ops.size - m)) a w) :
    ∀ (n : Nat) (rem : List Nat) (listed : Array Bool) (a : Act) (F : Facts) (G : Used) (w : World), rem.length = n → rem.Pairwise (· < ·) → (∀ i ∈ rem, i < m) → listed.size = ops.size →
      (∀ j, j ∈ rem ++ List.range' m (ops.size - m) ↔ listed.getD j true = false) →
      (∀ (j : Nat) (o : Oper) p, ops[j]? = some o → j ∉ rem ++ List.range' m (ops.size - m) → p ∈ Mix.preds md o → p ∉ rem ++ List.range' m (ops.size - m)) → At C F G w →
      fmix P ops C S Q rem a F G → wpAny P md ops Q' (n + (ops.size - m)) listed a w := by
  have hB' := hB
  unfold ok2 at hB
  simp only [Bool.and_eq_true] at hB
  obtain ⟨⟨hns, ht⟩, hp⟩ := hB
  intro n
  induction n with
  | zero =>
    intro rem listed a F G w hn _ _ hs hl hdown hw h
    obtain rfl : rem = [] := List.length_eq_zero_iff.1 hn
    rw [Nat.zero_add]
    simp only [List.nil_append] at hl hdown
    obtain ⟨CT, hct, hmx⟩ := hQ _ _ _ _ h hw
    exact tail_of_mix (C := CT) (Q := fun a' w' => Q' .normal a' w') (fun _ _ _ h => h) hB' (ops.size - m) (List.range' m (ops.size - m)) listed a w (by simp) List.pairwise_lt_range' (fun i hi => .inl (by simp at hi; omega)) hs hl hdown hct hmx
  | succ n ih =>
    intro rem listed a F G w hn hpw hlt hs hl hdown hw h
    by_cases hbl : ∀ q ∈ rem, ∃ o, ops[q]? = some o ∧ blind o = true
    · obtain ⟨CT, hct, hmx⟩ := blind_into (Q' := Q') (tl := List.range' m (ops.size - m)) hQ rem a F G w hbl hw h
      refine tail_of_mix (C := CT) (Q := fun a' w' => Q' .normal a' w') (fun _ _ _ h => h) hB' (n + 1 + (ops.size - m)) (rem ++ List.range' m (ops.size - m)) listed a w (by simp; omega) ?_ (fun i hi => ?_) hs hl hdown hct hmx
      · refine List.pairwise_append.2 ⟨hpw, List.pairwise_lt_range', fun x hx y hy => ?_⟩
        have := hlt x hx
        simp at hy
        omega
      · rcases List.mem_append.1 hi with hi | hi
        · exact .inr (hbl i hi)
        · exact .inl (by simp at hi; omega)
    have hq0 : ∃ q, q ∈ rem ∧ ∀ o, ops[q]? = some o → blind o = false := by
      apply Classical.byContradiction
      intro hno
      apply hbl
      intro q hq
      apply Classical.byContradiction
      intro h1
      apply hno
      refine ⟨q, hq, fun o ho => ?_⟩
      cases hb : blind o
      · rfl
      · exact absurd ⟨o, ho, hb⟩ h1
    obtain ⟨k, rem', rfl⟩ : ∃ k rem', rem = k :: rem' := by
      cases rem with
      | nil => simp at hn
      | cons k rem' => exact ⟨k, rem', rfl⟩
    have hkm : k < m := hlt k (by simp)
    have hks : k < ops.size := by omega
    have hko : ops[k]? = some ops[k] := Array.getElem?_eq_getElem hks
    have hkr : k ∈ Region.ready md ops listed := by
      refine mem_ready.2 ⟨(hl k).1 (by simp), _, hko, fun e he hb => ?_⟩
      have hlt' : e.on < k := by
        have h1 := List.all_eq_true.1 (by unfold Mix.tableOk at ht; exact ht) k (List.mem_range.2 hks)
        simp only [hko, Bool.and_eq_true, List.all_eq_true] at h1
        simpa using h1.1 e.on (Mix.mem_preds.2 ⟨e, he, hb, rfl⟩)
      have hno : e.on ∉ k :: rem' ++ List.range' m (ops.size - m) := by
        intro hmm
        rcases List.mem_append.1 hmm with hmm | hmm
        · rcases List.mem_cons.1 hmm with h' | h'
          · omega
          · have := (List.pairwise_cons.1 hpw).1 _ h'
            omega
        · simp at hmm; omega
      have : listed.getD e.on true ≠ false := fun hf => hno ((hl _).2 hf)
      have hes : e.on < listed.size := by omega
      simp only [Array.getD_eq_getD_getElem?, Array.getElem?_eq_getElem hes, Option.getD_some] at this ⊢
      simpa using this
    rw [show n + 1 + (ops.size - m) = (n + (ops.size - m)) + 1 by omega]
    refine ⟨fun h0 => absurd (h0 ▸ hkr) (by simp), fun i hi => ?_⟩
    obtain ⟨hi0, oi, hoi, hall⟩ := mem_ready.1 hi
    have him' := (hl i).2 hi0
    have hpreds := preds_of_ready (rem := k :: rem' ++ List.range' m (ops.size - m)) ht hs hl hall
    have his : i < ops.size := (Array.getElem?_eq_some_iff.1 hoi).1
    have hpi := List.all_eq_true.1 (by unfold pairsOk2 at hp; exact hp) i (List.mem_range.2 his)
    simp only [hoi, List.all_eq_true] at hpi
    have him : i ∈ k :: rem' := by
      rcases List.mem_append.1 him' with h' | h'
      · exact h'
      · exfalso
        have him2 : m ≤ i := by simp at h'; omega
        obtain ⟨q, hqr, hqb⟩ := hq0
        have hqm := hlt q hqr
        have hqs : q < ops.size := by omega
        have hqo : ops[q]? = some ops[q] := Array.getElem?_eq_getElem hqs
        have h2 := hpi q (List.mem_range.2 (by omega))
        have hnm : ¬ i < m := by omega
        have hkm2 : ¬ m ≤ q := by omega
        simp only [hqo, hnm, hkm2, decide_false, Bool.false_and, Bool.or_false, hqb _ hqo, Bool.and_false] at h2
        exact Mix.table_down ht hdown i i oi (Nat.le_refl _) hoi hpreds q (by omega) h2 (List.mem_append_left _ hqr)
    have himm : i < m := hlt i him
    obtain ⟨l1, l2, hsplit⟩ := List.append_of_mem him
    rw [hsplit] at hpw h hn hlt
    have hfree : ∀ q ∈ l1, ∀ oq, ops[q]? = some oq → oq.apart ops oi = true ∧ oi.apart ops oq = true := by
      intro q hq oq hoq
      have hqi : q < i := (List.pairwise_append.1 hpw).2.2 q hq i (by simp)
      have hqm : q ∈ k :: rem' ++ List.range' m (ops.size - m) := by rw [hsplit]; simp [hq]
      have h2 := hpi q (List.mem_range.2 hqi)
      have hmq : ¬ m ≤ q := by omega
      have hmi : ¬ m ≤ i := by omega
      simp only [hoq, himm, hmq, hmi, decide_true, decide_false, Bool.true_and, Bool.false_and, Bool.and_false, Bool.or_false, Bool.or_eq_true, Bool.and_eq_true] at h2
      rcases h2 with h2 | h2
      · exact absurd hqm (Mix.table_down ht hdown i i oi (Nat.le_refl _) hoi hpreds q hqi h2)
      · exact h2
    have h1 := mix_front hC hoi hns l2 l1 a F G hfree hw.1 hw.good h
    unfold fOp at h1
    simp only [hoi] at h1
    refine wpOp_mono (fun a' w' h' => ?_) (one_wp (Q := Q') hC hoi hw h1)
    obtain ⟨F', G', hw', h'⟩ := h'
    have hnot : i ∉ l1 ++ l2 := by
      intro hm
      rcases List.mem_append.1 hm with h | h
      · have := (List.pairwise_append.1 hpw).2.2 i h i (by simp)
        omega
      · have := (List.pairwise_cons.1 (List.pairwise_append.1 hpw).2.1).1 i h
        omega
    refine ih (l1 ++ l2) _ a' F' G' w' ?_ ?_ ?_ (by simpa using hs) ?_ ?_ hw' h'
    · simp at hn ⊢; omega
    · exact hpw.sublist (List.Sublist.append (List.Sublist.refl _) (List.sublist_cons_self _ _))
    · intro j hj
      refine hlt j ?_
      simp at hj ⊢
      rcases hj with h | h <;> simp [h]
    · intro j
      by_cases hji : j = i
      · subst hji
        have his : j < listed.size := by omega
        constructor
        · intro hm'
          exfalso
          rcases List.mem_append.1 hm' with h | h
          · exact hnot h
          · simp at h; omega
        · intro hm'; simp [Array.getElem?_setIfInBounds_self_of_lt his] at hm'
      · rw [getD_set_ne true (Ne.symm hji), ← hl j, hsplit]
        simp [hji]
    · intro j o p hjo hjn hpm hpin
      have hpin' : p ∈ k :: rem' ++ List.range' m (ops.size - m) := by rw [hsplit]; simp at hpin ⊢; rcases hpin with h | h | h <;> simp [h]
      by_cases hji : j = i
      · subst hji
        rw [hoi] at hjo
        cases hjo
        exact hpreds p hpm hpin'
      · refine hdown j o p hjo ?_ hpm hpin'
        rw [hsplit]
        simp only [List.mem_append, List.mem_cons] at hjn ⊢
        intro hh
        apply hjn
        rcases hh with (h | h | h) | h
        · exact .inl (.inl h)
        · exact absurd h hji
        · exact .inl (.inr h)
        · exact .inr h
end
section
variable {P : Program} {ops : Array Oper}
theorem wp_region {id : Nat} {Q : Exit → Act → World → Prop} {a : Act} {w : World} (C : World → Prop) (m : Nat) (specs : List Flo.Spec) (hf : P.follows .mixedOrders = true) (hB : ok2 .any ops m = true) (hm : m ≤ ops.size)
    (hC : ∀ w w', C w → Below w.heap.size w w' → C w') (hw : C { w with drawn := w.drawn + 1 })
    (h : fwalk P ops C (fun a F G => ∀ w, C w → (∀ t, F t w) → (∀ x, G x → x < w.heap.size) → ∃ CT : World → Prop, CT w ∧ Mix.walk P ops CT (fun a' w' => Q .normal a' w') (ops.toList.drop m) a w) (pair (ops.toList.take m) specs) a Facts.none_ Used.none_) : (Code.region id ops true).wp P Q a w := by
  have hlen : (pair (ops.toList.take m) specs).length = m := by rw [pair_len]; simp; omega
  have hdl : (ops.toList.drop m).length = ops.size - m := by simp
  let S : Nat → Flo.Spec := fun i => (((pair (ops.toList.take m) specs)[i]?).map (·.2)).getD dflt
  have hmix := fwalk_mix (P := P) (ops := ops) (C := C) (S := S) (pair (ops.toList.take m) specs) 0 a Facts.none_ Used.none_ (fun j os hj => by
    rw [Nat.zero_add]
    constructor
    · have h1 := congrArg (fun l => l[j]?) (pair_map (ops.toList.take m) specs)
      simp only [List.getElem?_map, hj, Option.map_some] at h1
      have hjm : j < m := by
        have := (List.getElem?_eq_some_iff.1 hj).1
        omega
      rw [List.getElem?_take, if_pos hjm] at h1
      simpa using h1.symm
    · show (((pair (ops.toList.take m) specs)[j]?).map (·.2)).getD dflt = os.2
      rw [hj]; rfl) h
  rw [hlen] at hmix
  have hsplit : List.range' 0 m ++ List.range' m (ops.size - m) = List.range' 0 ops.size := by
    have := List.range'_append (s := 0) (m := m) (n := ops.size - m) (step := 1)
    rw [show 0 + 1 * m = m by omega, show m + (ops.size - m) = ops.size by omega] at this
    exact this
  refine wp_region_any hf ?_
  have := any_of_mix (P := P) (ops := ops) (C := C) (S := S) (md := .any) (m := m) (Q' := Q) hC hB hm (Q := fun a F G => ∀ w, C w → (∀ t, F t w) → (∀ x, G x → x < w.heap.size) → ∃ CT : World → Prop, CT w ∧ Mix.walk P ops CT (fun a' w' => Q .normal a' w') (ops.toList.drop m) a w)
    (fun a F G w hq ha => by
      obtain ⟨CT, hct, hwk⟩ := hq w ha.2.1 ha.2.2.1 ha.2.2.2
      have h1 := Mix.walk_mix (P := P) (C := CT) (Q := fun a' w' => Q .normal a' w') (ops.toList.drop m) m a w hct (fun j => by
        by_cases hj : j < ops.size - m
        · simp [hj]
        · simp [hj]) hwk
      rw [hdl] at h1
      exact ⟨CT, hct, h1⟩)
    m (List.range' 0 m) (Array.replicate ops.size false) a Facts.none_ Used.none_ { w with drawn := w.drawn + 1 } (by simp) List.pairwise_lt_range' (fun i hi => by simp at hi; exact hi) (by simp)
    (fun j => by
      rw [hsplit]
      simp only [List.mem_range'_1, Array.getD_eq_getD_getElem?]
      by_cases hj : j < ops.size
      · simp [hj]
      · simp [hj])
    (fun j o p ho hj _ => by
      exfalso
      apply hj
      rw [hsplit]
      simp [(Array.getElem?_eq_some_iff.1 ho).1])
    ⟨fun _ _ _ _ _ => trivial, hw, fun _ => trivial, fun _ h => h.elim⟩ hmix
  rw [show m + (ops.size - m) = ops.size by omega] at this
  exact this

end
end Go.Flo3
