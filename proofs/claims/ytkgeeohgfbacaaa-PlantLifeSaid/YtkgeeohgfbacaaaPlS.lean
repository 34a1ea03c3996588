/- Plants: when two are alike. -/
import Derived.Test.YtkgeeohgfbacaaaPlW
import Derived.Test.YtkgeeohgfbacaaaFlatEq
namespace Go.Proofs.Ytkgeeohgfbacaaa
open Go.RowKit Go.Own
set_option linter.unusedVariables false
set_option linter.unusedSimpArgs false
/-- All its numbers may be. -/
structure Pl.Ok (p : Pl) : Prop where
  n : p.n ≤ 16
  s : ∀ i, i < 16 → 0 ≤ (p.u i).s ∧ (p.u i).s ≤ 255
  l : ∀ i, i < 16 → 0 ≤ (p.u i).l ∧ (p.u i).l ≤ 255
  b : ∀ i, i < 16 → 0 ≤ (p.u i).b ∧ (p.u i).b ≤ 255
  w : ∀ i, i < 16 → 0 ≤ p.wt i ∧ p.wt i ≤ 255
  t : ∀ i, i < 16 → 0 ≤ p.tol i ∧ p.tol i ≤ 255
theorem Plain.of : ∀ {sh : List Leaf} {cs : List Value}, cs.length = sh.length → (∀ (k : Nat) (kd : Leaf), sh[k]? = some kd → ∃ v, cs[k]? = some v ∧ kd.plain v) → Plain sh cs
  | [], [], _, _ => trivial
  | kd :: sh, v :: cs, hl, h => by
    obtain ⟨v', e, hp⟩ := h 0 kd rfl
    simp only [List.getElem?_cons_zero, Option.some.injEq] at e
    subst e
    exact ⟨hp, Plain.of (by simpa using hl) fun k kd hk => by
      obtain ⟨v2, e2, hp2⟩ := h (k + 1) kd (by simpa using hk)
      exact ⟨v2, by simpa using e2, hp2⟩⟩
  | [], _ :: _, hl, _ => by simp at hl
  | _ :: _, [], hl, _ => by simp at hl
def plSh : List Leaf := List.replicate 80 (.int .u8) ++ [.int .i64]
theorem plSh_leaves : leaves Try.prog 9 95 = some plSh := by kernel_rfl
theorem wf8 {x : Int} (h : 0 ≤ x ∧ x ≤ 255) : (Lit.int .u8 x).wf = true := WalkArith.wf_u8 (by omega)
theorem pl_plain (p : Pl) (h : p.Ok) : Plain plSh p.cs.toList := by
  refine Plain.of (by simp [Pl.size, plSh]) fun k kd hk => ?_
  have hk81 : k < 81 := by
    have := (List.getElem?_eq_some_iff.1 hk).1
    simpa [plSh] using this
  refine ⟨p.cell k, by rw [← p.at_ hk81]; simp, ?_⟩
  unfold plSh at hk
  by_cases h80 : k < 80
  · rw [List.getElem?_append_left (by simpa using h80), List.getElem?_replicate_of_lt h80] at hk
    cases hk
    have hi : k / 5 < 16 := by omega
    unfold Pl.cell
    rw [if_pos h80]
    split
    · exact ⟨_, rfl, wf8 (h.s _ hi)⟩
    split
    · exact ⟨_, rfl, wf8 (h.l _ hi)⟩
    split
    · exact ⟨_, rfl, wf8 (h.b _ hi)⟩
    split
    · exact ⟨_, rfl, wf8 (h.w _ hi)⟩
    · exact ⟨_, rfl, wf8 (h.t _ hi)⟩
  · obtain rfl : k = 80 := by omega
    have : kd = .int .i64 := by simpa using hk.symm
    subst this
    unfold Pl.cell
    rw [if_neg h80]
    exact ⟨_, rfl, WalkArith.wf_i64 (by have := h.n; omega)⟩
theorem pl_eql (p q : Pl) (hp : p.Ok) (hq : q.Ok) (r : Bool) (hr : r = true ↔ p.cs = q.cs) (w : World) : (binOp .eql 95 (.agg p.cs) (.agg q.cs)).run Try.prog w = .ok (.bool r) w := by
  obtain ⟨r', h, hi⟩ := eql_plain (P := Try.prog) (t := 95) (sh := plSh) (m := 9) (by omega) plSh_leaves (by kernel_rfl) (by kernel_rfl) (by kernel_rfl) (pl_plain p hp) (pl_plain q hq) w
  rw [h, show r' = r from Bool.eq_iff_iff.2 (hi.trans hr.symm)]
end Go.Proofs.Ytkgeeohgfbacaaa
