/- A region that draws its order, one lexical walk for all orders (Mix), in a round of a range over a function. Of whatever program. -/
import Derived.Test.YtioclbkgfbjpdaaMix
import Derived.Test.YtioclbkgfbjpdaaFlo3
import Derived.BigRegionIn
import Derived.OrdersIn
import Derived.TacticsIn
import Derived.Laws.Tables
import Derived.Laws.Rows
import Derived.RangeFuncCalls
namespace Go.Mix
open Go Go.RowKit
set_option linter.unusedVariables false
variable {P : Program} {ops : Array Oper} {md : Region.Mode}
theorem rowsIn_wide {n l : Nat} {row : String} {args : Array Value} {w : World} {R : Value → World → Prop} (h : Rows P row args w R) : RowsIn (Fence.wide.inRound l) n P row args w R :=
  fun c cs _ => let ⟨v, w', r, s⟩ := h c cs; ⟨v, w', r, stepsIn_wide.2 s⟩
theorem upIn_of_up {l n : Nat} {o : Oper} {a : Act} {Q : Exit → Act → World → Prop} {K K' : Act → World → Prop} (hk : ∀ a w, K a w → K' a w) (r : Result Next) (h : o.upon P a K Q r) : o.uponIn (Fence.wide.inRound l) n P a K' Q r := by
  cases r with
  | ok x w' =>
    cases x with
    | value v => exact hk _ _ h
    | skip => exact hk _ _ h
    | defer d => exact hk _ _ h
    | enter f args =>
      refine ⟨(fun h => by cases h), ?_⟩
      have h' : Calls P f args w' _ := h
      exact ((callsIn_wide.2 h').inRound l).mono fun e w'' he => by cases e <;> first | exact hk _ _ he | exact he
    | row r args =>
      refine ⟨(fun h => by cases h), ?_⟩
      have h' : Rows P r args w' _ := h
      exact (rowsIn_wide h').mono fun v w'' hv => hk _ _ hv
    | _ => exact h.elim
  | halt x w' => cases x <;> first | exact h | exact h.elim
theorem opIn_of_op {l n i : Nat} {a : Act} {w : World} {Q : Exit → Act → World → Prop} {K K' : Act → World → Prop} (hd : ∀ o ∈ ops.toList, ∀ c, o.op ≠ .defer c) (hQ : ¬ LetsOut Q) (hk : ∀ a w, K a w → K' a w)
    (h : wpOp P ops Q i K a w) : wpOpIn (Fence.wide.inRound l) n P ops Q i K' a w := by
  unfold wpOp at h
  unfold wpOpIn
  cases ho : ops[i]? with
  | none => rw [ho] at h; exact hk _ _ h
  | some o =>
    rw [ho] at h
    dsimp only at h ⊢
    split
    · rename_i hw
      rw [if_pos hw] at h
      rcases h with h | h
      · refine ⟨fun _ _ => trivial, ?_⟩
        rw [Oper.semAt_eq _ _ _ (hd o (by rw [← Array.getElem?_toList] at ho; exact List.mem_of_getElem? ho))]
        exact upIn_of_up hk _ h
      · exact absurd h.2 hQ
    · rename_i hw
      rw [if_neg hw] at h
      exact ⟨fun _ _ => trivial, hk _ _ h⟩
theorem anyIn_of_any {l n : Nat} {Q : Exit → Act → World → Prop} (hd : ∀ o ∈ ops.toList, ∀ c, o.op ≠ .defer c) (hQ : ¬ LetsOut Q) : ∀ (m : Nat) (listed : Array Bool) (a : Act) (w : World), wpAny P md ops Q m listed a w → wpAnyIn (Fence.wide.inRound l) n P md ops Q m listed a w
  | 0, _, _, _, h => h
  | m + 1, listed, a, w, h => ⟨h.1, fun i hi => opIn_of_op hd hQ (fun a w h => anyIn_of_any hd hQ m _ a w h) (h.2 i hi)⟩
theorem wpIn_region {l n id : Nat} {Q : Exit → Act → World → Prop} {a : Act} {w : World} (C : World → Prop) (hm : P.follows .mixedOrders = true) (hd : ∀ o ∈ ops.toList, ∀ c, o.op ≠ .defer c) (hQ : ¬ LetsOut Q) (hB : ok .any ops = true) (hC : C { w with drawn := w.drawn + 1 })
    (h : walk P ops C (fun a' w' => Q .normal a' w') ops.toList a { w with drawn := w.drawn + 1 }) : (Code.region id ops true).wpIn (Fence.wide.inRound l) n P Q a w := by
  refine wpIn_region_any hm (anyIn_of_any hd hQ _ _ _ _ (any_of_mix (C := C) (Q := fun a' w' => Q .normal a' w') (fun _ _ _ h => h) hB ops.size (List.range' 0 ops.size) _ a _ (by simp) List.pairwise_lt_range' (by simp) (fun j => ?_) (fun j o p ho hj _ => ?_) hC ?_))
  · simp only [List.mem_range'_1, Array.getD_eq_getD_getElem?]
    by_cases hj : j < ops.size
    · simp [hj]
    · simp [hj]
  · exfalso
    apply hj
    simp [(Array.getElem?_eq_some_iff.1 ho).1]
  · have := walk_mix (P := P) (C := C) (Q := fun a' w' => Q .normal a' w') ops.toList 0 a _ hC (fun j => by
      by_cases hj : j < ops.size
      · simp [hj]
      · simp [hj]) h
    simpa using this
/-- Out of every round. -/
theorem upW_of_up {n : Nat} {o : Oper} {a : Act} {Q : Exit → Act → World → Prop} {K : Act → World → Prop} (r : Result Next) (h : o.upon P a K Q r) : o.uponIn Fence.wide n P a K Q r := by
  cases r with
  | ok x w' =>
    cases x with
    | value v => exact h
    | skip => exact h
    | defer d => exact h
    | enter f args =>
      refine ⟨(fun h => by cases h), ?_⟩
      have h' : Calls P f args w' _ := h
      exact (callsIn_wide.2 h').mono fun e w'' he => by cases e <;> exact he
    | row r args =>
      refine ⟨(fun h => by cases h), ?_⟩
      have h' : Rows P r args w' _ := h
      exact fun c cs _ => let ⟨v, w', r, s⟩ := h' c cs; ⟨v, w', r, stepsIn_wide.2 s⟩
    | _ => exact h.elim
  | halt x w' => cases x <;> first | exact h | exact h.elim
theorem opW_of_op {n : Nat} {o : Oper} {a : Act} {w : World} {Q : Exit → Act → World → Prop} {K : Act → World → Prop} (h : o.wp P a w K Q) : o.wpIn Fence.wide n P a w K Q :=
  ⟨fun _ _ => trivial, upW_of_up _ h⟩
theorem load_rowW {n : Nat} {rest : List Oper} {o : Oper} {a : Act} {w : World} {Q : Exit → Act → World → Prop} (hgd : o.guard = none) (ty : TypeId) (x : Operand) (ho : o.op = .load ty x)
    (g : Nat) (hx : a.eval x = .pointer (some ⟨g, 0, none⟩)) (t : TypeId) (cs : Array Value) (fr : Nat × Nat) (d : TypeDesc) (hg : w.heap[g]? = some (.cells cs t fr))
    (hu : P.underlying ty = some d) (hd : (match d with | .struct _ | .array _ _ => true | _ => false) = true) (hi : (P.info? ty).map (·.size) = some cs.size)
    (h : wpListIn Fence.wide n P ops Q rest (a.put o.dst (.agg cs)) w) : wpListIn Fence.wide n P ops Q (o :: rest) a w :=
  wpListIn_plain hgd fun K hK => opW_of_op (wp_load_row ty x ho g hx t cs fr d hg hu hd hi (hK _ _ h))
theorem store_rowW {n : Nat} {rest : List Oper} {o : Oper} {a : Act} {w : World} {Q : Exit → Act → World → Prop} (hgd : o.guard = none) (ty : TypeId) (x y : Operand) (ho : o.op = .store ty x y)
    (g : Nat) (cells : Array Value) (hx : a.eval x = .pointer (some ⟨g, 0, none⟩)) (hy : a.eval y = .agg cells) (t : TypeId) (old : Array Value) (hg : w.heap[g]? = some (.cells old t (0, 0))) (hi : (P.info? ty).map (·.size) = some cells.size)
    (hold : old.size = cells.size) (h1 : cells.all (·.oneCell') = true)
    (h : wpListIn Fence.wide n P ops Q rest (a.put o.dst undef) (w.setRow g cells)) : wpListIn Fence.wide n P ops Q (o :: rest) a w :=
  wpListIn_plain hgd fun K hK => opW_of_op (wp_store_row ty x y ho g cells hx hy t old hg hi hold h1 (hK _ _ h))
end Go.Mix
namespace Go.Flo3
open Go.RowKit Go.Flo
set_option linter.unusedVariables false
set_option linter.unusedSimpArgs false
section
variable {P : Program} {ops : Array Oper} {md : Region.Mode} {C : World → Prop} {S : Nat → Flo.Spec} {m : Nat}
theorem wpIn_region {l n id : Nat} {Q : Exit → Act → World → Prop} {a : Act} {w : World} (C : World → Prop) (m : Nat) (specs : List Flo.Spec) (hf : P.follows .mixedOrders = true) (hd : ∀ o ∈ ops.toList, ∀ c, o.op ≠ .defer c) (hQ : ¬ LetsOut Q) (hB : ok2 .any ops m = true) (hm : m ≤ ops.size)
    (hC : ∀ w w', C w → Below w.heap.size w w' → C w') (hw : C { w with drawn := w.drawn + 1 })
    (h : fwalk P ops C (fun a F G => ∀ w, C w → (∀ t, F t w) → (∀ x, G x → x < w.heap.size) → ∃ CT : World → Prop, CT w ∧ Mix.walk P ops CT (fun a' w' => Q .normal a' w') (ops.toList.drop m) a w) (pair (ops.toList.take m) specs) a Facts.none_ Used.none_) : (Code.region id ops true).wpIn (Fence.wide.inRound l) n P Q a w := by
  have hlen : (pair (ops.toList.take m) specs).length = m := by rw [pair_len]; simp; omega
  have hdl : (ops.toList.drop m).length = ops.size - m := by simp
  let S : Nat → Flo.Spec := fun i => (((pair (ops.toList.take m) specs)[i]?).map (·.2)).getD dflt
  have hmix := fwalk_mix (P := P) (ops := ops) (C := C) (S := S) (pair (ops.toList.take m) specs) 0 a Facts.none_ Used.none_ (fun j os hj => by
    rw [Nat.zero_add]
    constructor
    · have h1 := congrArg (fun l' => l'[j]?) (pair_map (ops.toList.take m) specs)
      simp only [List.getElem?_map, hj, Option.map_some] at h1
      have hjm : j < m := by
        have := (List.getElem?_eq_some_iff.1 hj).1
        omega
      rw [List.getElem?_take, if_pos hjm] at h1
      simpa using h1.symm
    · show (((pair (ops.toList.take m) specs)[j]?).map (·.2)).getD dflt = os.2
      rw [hj]; rfl) h
  rw [hlen] at hmix
  have hsplit : List.range' 0 m ++ List.range' m (ops.size - m) = List.range' 0 ops.size := by
    have := List.range'_append (s := 0) (m := m) (n := ops.size - m) (step := 1)
    rw [show 0 + 1 * m = m by omega, show m + (ops.size - m) = ops.size by omega] at this
    exact this
  refine wpIn_region_any hf (Mix.anyIn_of_any hd hQ _ _ _ _ ?_)
  have := any_of_mix (P := P) (ops := ops) (C := C) (S := S) (md := .any) (m := m) (Q' := Q) hC hB hm (Q := fun a F G => ∀ w, C w → (∀ t, F t w) → (∀ x, G x → x < w.heap.size) → ∃ CT : World → Prop, CT w ∧ Mix.walk P ops CT (fun a' w' => Q .normal a' w') (ops.toList.drop m) a w)
    (fun a F G w hq ha => by
      obtain ⟨CT, hct, hwk⟩ := hq w ha.2.1 ha.2.2.1 ha.2.2.2
      have h1 := Mix.walk_mix (P := P) (C := CT) (Q := fun a' w' => Q .normal a' w') (ops.toList.drop m) m a w hct (fun j => by
        by_cases hj : j < ops.size - m
        · simp [hj]
        · simp [hj]) hwk
      rw [hdl] at h1
      exact ⟨CT, hct, h1⟩)
    m (List.range' 0 m) (Array.replicate ops.size false) a Facts.none_ Used.none_ { w with drawn := w.drawn + 1 } (by simp) List.pairwise_lt_range' (fun i hi => by simp at hi; exact hi) (by simp)
    (fun j => by
      rw [hsplit]
      simp only [List.mem_range'_1, Array.getD_eq_getD_getElem?]
      by_cases hj : j < ops.size
      · simp [hj]
      · simp [hj])
    (fun j o p ho hj _ => by
      exfalso
      apply hj
      rw [hsplit]
      simp [(Array.getElem?_eq_some_iff.1 ho).1])
    ⟨fun _ _ _ _ _ => trivial, hw, fun _ => trivial, fun _ h => h.elim⟩ hmix
  rw [show m + (ops.size - m) = ops.size by omega] at this
  exact this

end
end Go.Flo3
