/- Layer 18: pure facts of the laws; a row's part in a drawn region. -/
import Derived.Test.YtioclbkgfbjpdaaLaw18
import Derived.Test.YtioclbkgfbjpdaaSwA
import Derived.Test.YtioclbkgfbjpdaaSwD
namespace Go.Flo
open Go.RowKit
theorem quiet_load_midS {P : Program} {C : World → Prop} {o : Oper} {a : Act} {K : Act → Prop} (ty : TypeId) (x : Operand) (ho : o.op = .load ty x) (b off : Nat) (hx : a.eval x = .pointer (some ⟨b, off, none⟩)) (cs : List Value) {d : TypeDesc}
    (hg : ∀ w, C w → w.rangeAt b off cs) (hu : P.underlying ty = some d) (hd : d.isRow = true) (hi : (P.info? ty).map (·.size) = some cs.length)
    (h : K (a.put o.dst (.agg cs.toArray))) : o.quiet P a C K := by
  refine ⟨.agg cs.toArray, fun w hw => ?_, h⟩
  unfold Oper.quietAt execOp
  simp only [ho, hx, Instr.loadAt, Instr.sureAddr, Sem.run_bind, Sem.run_pure, Result.andThen_ok, run_loadVar_mid w b off ty cs d (hg w hw) hu hd hi]
  exact ⟨rfl, rfl⟩
end Go.Flo
namespace Go.Proofs.Ytioclbkgfbjpdaa
open Go.RowKit Go.Own Bs
set_option linter.unusedVariables false
set_option linter.unusedSimpArgs false
/-- All that some sets have. -/
def orAll (l : List Nat) : Nat := l.foldl (fun s t => s ||| t) 0
theorem rightL_snoc : ∀ (l : List Nat) (t u : Nat), rightL (l ++ [u]) t = (rightL l t && decide ((l.foldl (fun s t => s ||| t) t) &&& u = 0))
  | [], t, u => by
    show (if t &&& u = 0 then true else false) = (true && decide (t &&& u = 0))
    by_cases h : t &&& u = 0 <;> simp [h]
  | x :: l, t, u => by
    show (if t &&& x = 0 then rightL (l ++ [u]) (t ||| x) else false) = ((if t &&& x = 0 then rightL l (t ||| x) else false) && _)
    by_cases h : t &&& x = 0
    · rw [if_pos h, if_pos h, rightL_snoc l (t ||| x) u]; rfl
    · rw [if_neg h, if_neg h]; rfl
theorem less_apart {s A : Nat} (hA : A < 65536) (hs : s < 65536) : A &&& (s &&& (65535 - A)) = 0 := by
  refine Nat.eq_of_testBit_eq fun i => ?_
  rw [Nat.testBit_and, Nat.testBit_and, Nat.zero_testBit, show 65535 - A = 2 ^ 16 - (A + 1) by omega, Nat.testBit_two_pow_sub_succ hA]
  cases A.testBit i <;> simp
theorem layS_rightA : ∀ (z : List Nat) (p : List Nat × Nat), (∀ s ∈ z, s < 65536) → p.2 < 65536 → rightL p.1 0 = true → p.2 = p.1.foldl (fun s t => s ||| t) 0 → rightL (z.foldl layOne p).1 0 = true
  | [], p, _, _, h1, _ => h1
  | s :: z, p, hz, hA, h1, h2 => by
    have hs := hz s (by simp)
    rw [List.foldl_cons]
    refine layS_rightA z _ (fun t h => hz t (by simp [h])) (Nat.or_lt_two_pow (n := 16) hA (Nat.lt_of_le_of_lt Nat.and_le_left hs)) ?_ ?_
    · show rightL (p.1 ++ [s &&& (65535 - p.2)]) 0 = true
      rw [rightL_snoc, h1, ← h2, less_apart hA hs]
      rfl
    · show p.2 ||| (s &&& (65535 - p.2)) = (p.1 ++ [s &&& (65535 - p.2)]).foldl (fun s t => s ||| t) 0
      rw [List.foldl_append, ← h2]
      rfl
theorem layS_right (z : List Nat) (hz : ∀ s ∈ z, s < 65536) : rightL (layS z).1 0 = true := layS_rightA z ([], 0) hz (by decide) rfl rfl
theorem lay_right {z : List Nat} (hz : ∀ t ∈ z, t < 65536) : rightL (layS (z.take 6)).1 0 = true := layS_right _ (fun t h => hz t (List.mem_of_mem_take h))
theorem units_and (c : Nat → Int) (m : Nat) : ∀ k, (∀ j, j < k → bit1 (c j) &&& m = 0) → unitsS c k &&& m = 0
  | 0, _ => by simp [unitsS]
  | k + 1, h => by
    show (unitsS c k ||| bit1 (c k)) &&& m = 0
    rw [Nat.and_comm, Nat.and_or_distrib_left, Nat.and_comm m, units_and c m k (fun j hj => h j (by omega)), Nat.and_comm m, h k (by omega)]
    rfl
/-- A chain that is listed has no bad units. -/
theorem chain_good {l : List Nat} {lk : Nat → Nat} {bad : Nat} {x : List Nat} (hb : bad < 65536) (hx : x ∈ DD l lk bad) : unitsS (chainC x) 6 &&& bad = 0 := by
  obtain ⟨h1, h2, _, _⟩ := (dfs_iff _ _ _ _ _ _).1 hx
  refine units_and _ _ _ fun j hj => ?_
  unfold chainC
  by_cases hl : j < x.length
  · rw [if_pos hl]
    obtain ⟨hu, hv⟩ := h2 j (by omega)
    unfold vOf alB at hv
    rw [has_and _ _ _ hu, has_not _ _ hb hu, Bool.and_eq_true, Bool.not_eq_true'] at hv
    have := hv.2
    unfold has at this
    rw [decide_eq_false_iff_not, Decidable.not_not, Nat.and_comm] at this
    exact this
  · rw [if_neg hl]
    have : bit1 (-1) = 0 := by decide
    rw [this, Nat.zero_and]
theorem chain_ok {x : List Nat} (hx : ∀ u ∈ x, u < 16) : ChOk (chainC x) := fun k _ => by
  unfold chainC
  split
  · rename_i hk
    have := hx (x.getD k 0) (by rw [List.getD, List.getElem?_eq_getElem hk]; exact List.getElem_mem _)
    omega
  · omega
theorem head_is {D : List (List Nat)} (h : 0 < D.length) : headC D = chainC (D.getD 0 []) ∧ D.getD 0 [] ∈ D := by
  cases D with
  | nil => simp at h
  | cons x D => exact ⟨rfl, by simp [List.getD]⟩
end Go.Proofs.Ytioclbkgfbjpdaa
