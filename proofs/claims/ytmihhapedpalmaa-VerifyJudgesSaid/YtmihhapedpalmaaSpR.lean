/- New blocks of slices of bytes, in regions that draw their order; Join of them. -/
import Derived.Test.YtmihhapedpalmaaFloB
import Derived.Test.YtmihhapedpalmaaByt
namespace Go.Proofs.Ytmihhapedpalmaa
open Go.RowKit Go.Own
set_option linter.unusedVariables false
set_option linter.unusedSimpArgs false

/-- The cells of a block of slices that have these bytes. -/
def rowsC (A : Nat → Option Addr) (C : Nat → Nat) (Ls : List (List Nat)) : Array Value := ((List.range Ls.length).map fun i => Value.slice (A i) (Ls.getD i []).length (C i)).toArray
/-- A new block of slices that read as these bytes. -/
def SpRows (n0 : Nat) (Ls : List (List Nat)) (t : TypeId) : Go.Flo.Spec :=
  ⟨fun v w => ∃ g A C, n0 ≤ g ∧ v = .slice (some ⟨g, 0, none⟩) Ls.length Ls.length ∧ w.heap[g]? = some (.cells (rowsC A C Ls) t (0, 0)) ∧ ∀ i, i < Ls.length → Rd w.heap.size w (A i) (Ls.getD i []).length (C i) (bv (Ls.getD i [])),
   fun v w w' hb ⟨g, A, C, h0, hv, h, hr⟩ => ⟨g, A, C, h0, hv, heap_below hb h, fun i hi => rd_grow (hr i hi) hb⟩⟩
theorem owes_rows {o : Oper} {Ls : List (List Nat)} {w : World} {n0 k : Nat} {t : TypeId} {cs : Array Value} (A : Nat → Option Addr) (C : Nat → Nat) (h0 : n0 ≤ w.heap.size) (hk : Ls.length = k) (hc : cs = rowsC A C Ls)
    (hr : ∀ i, i < Ls.length → Rd w.heap.size w (A i) (Ls.getD i []).length (C i) (bv (Ls.getD i []))) :
    Go.Flo.owes o (SpRows n0 Ls t) w (.slice (some ⟨w.heap.size, 0, none⟩) k k) (w.alloc (.cells cs t)) := by
  subst hk hc
  have hb := (Below.refl w.heap.size w).alloc (Nat.le_refl _) (.cells (rowsC A C Ls) t)
  refine ⟨⟨w.heap.size, A, C, h0, rfl, heap_alloc_new w _, fun i hi => rd_grow (hr i hi) hb⟩, hb, fun g hg => ?_⟩
  unfold Go.Flo.ownOf at hg
  split at hg
  · simp [Go.Flo.blockOf] at hg; subst hg; simp
  · cases hg
theorem ex_rows {C : World → Prop} {o : Oper} {n0 : Nat} {Ls : List (List Nat)} {t : TypeId} {v : Value} {F : Go.Flo.Facts} {G : Go.Flo.Used} (h : Go.Flo.Ex C o (SpRows n0 Ls t) F G v) : ∃ g, v = .slice (some ⟨g, 0, none⟩) Ls.length Ls.length := by
  obtain ⟨w, _, _, ⟨g, A, C, _, h1, _⟩, _⟩ := h
  exact ⟨g, h1⟩
theorem flat_list (Ls : List (List Nat)) : ∀ k, flat (fun i => Ls.getD i []) k = (Ls.take k).flatten
  | 0 => by simp [flat]
  | k + 1 => by
    rw [flat_succ, flat_list Ls k]
    by_cases h : k < Ls.length
    · rw [List.take_succ_eq_append_getElem h, List.flatten_append]
      simp [List.getD, h]
    · rw [List.take_of_length_le (by omega), List.take_of_length_le (by omega)]
      simp [List.getD, h]
theorem JoinRows {g k n0 : Nat} {Ls : List (List Nat)} {t : TypeId} {w : World} (h : (SpRows n0 Ls t).says (.slice (some ⟨g, 0, none⟩) k k) w) (hm : Ls.length ≤ 1000) (hs : Ls.flatten.length ≤ 140737488355328) :
    Calls Try.prog 29 #[.slice (some ⟨g, 0, none⟩) k k] w fun e w' => ∃ v, e = .returned v ∧ w'.ownsRow w.heap.size 5 1 v Ls.flatten.length (bl Ls.flatten) ∧ Below w.heap.size w w' := by
  obtain ⟨g', A, C, _, hv, hg, hr⟩ := h
  simp at hv
  obtain ⟨rfl, rfl⟩ := hv
  have hgl := (Array.getElem?_eq_some_iff.1 hg).1
  have hrd : Rd w.heap.size w (some ⟨g, 0, none⟩) Ls.length Ls.length (fun i => .slice (A i) (Ls.getD i []).length (C i)) :=
    ⟨Nat.le_refl _, by unfold maxLen; omega, fun h => (by cases h), fun _ => ⟨g, 0, rfl, hgl, fun i hi => by
      rw [Nat.zero_add, cell_of_row _ _ i _ _ _ hg]
      simp [rowsC, hi]⟩⟩
  have hf : flat (fun i => Ls.getD i []) Ls.length = Ls.flatten := by rw [flat_list, List.take_length]
  have := Join_any (some ⟨g, 0, none⟩) Ls.length Ls.length w.heap.size A C (fun i => Ls.getD i []) w (Nat.le_refl _) hrd hr (by rw [hf]; exact hs)
  rw [hf] at this
  exact this
/-- A literal of bytes. -/
theorem owes_lit {o : Oper} {l : List Nat} {w : World} {k : Nat} {cs : Array Value} {t : TypeId} (hl : l.length = k) (hk : k ≤ 1000) (hc : cs = (bl l).toArray) : Go.Flo.owes o (SpB l) w (.slice (some ⟨w.heap.size, 0, none⟩) k k) (w.alloc (.cells cs t)) := by
  subst hl hc
  have hb := (Below.refl w.heap.size w).alloc (Nat.le_refl _) (.cells (bl l).toArray t)
  refine ⟨⟨some ⟨w.heap.size, 0, none⟩, l.length, rfl, ?_⟩, hb, fun g hg => ?_⟩
  · refine ⟨Nat.le_refl _, by unfold maxLen; omega, fun h => (by cases h), fun _ => ⟨w.heap.size, 0, rfl, by simp, fun i hi => ?_⟩⟩
    rw [Nat.zero_add, cell_of_row _ _ i _ _ _ (heap_alloc_new w _), List.getElem?_toArray]
    exact bl_at l hi
  · unfold Go.Flo.ownOf at hg
    split at hg
    · simp [Go.Flo.blockOf] at hg; subst hg; simp
    · cases hg
end Go.Proofs.Ytmihhapedpalmaa
