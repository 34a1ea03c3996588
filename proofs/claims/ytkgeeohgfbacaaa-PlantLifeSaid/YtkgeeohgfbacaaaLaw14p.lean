/- PlantApart: what is done with some units touches no other one. -/
import Derived.Test.YtkgeeohgfbacaaaLaw14
import Derived.Test.YtkgeeohgfbacaaaPlA
import Derived.Test.YtkgeeohgfbacaaaFlat
import Derived.Deep.CutBlock
import Derived.Deep.DeepCutAuto
import Derived.Lib.SliceRun
namespace Go.Proofs.Ytkgeeohgfbacaaa
open Go.RowKit Go.Own
set_option linter.unusedVariables false
set_option linter.unusedSimpArgs false
theorem run_minJ {P : Program} (ats : Array TypeId) (ty : TypeId) (k : IntKind) (a b : Int) (w : World) : (Builtin.min_ ats ty #[.int k a, .int k b]).run P w = .ok (.int k (min a b)) w := by
  have e2 : (Builtin.min2 (.int k a) (.int k b)).run P w = .ok (.int k (min a b)) w := by
    unfold Builtin.min2
    by_cases h : b < a
    · have e : min a b = b := by omega
      simp [e, h]
    · have e : min a b = a := by omega
      simp [e, h]
  simp [Builtin.min_, e2]
theorem slR_upto (a : Option Addr) (len cap k : Nat) (hk : k ≤ cap) (w : World) : (Instr.slice 86 (.slice a len cap) none (some (.int .i64 (k : Nat))) none).run Try.prog w = .ok (.slice a k cap) w := by
  rw [run_slice_h w 86 a len cap (by kernel_rfl) .i64 _ (by omega) (by omega)]
  have hz : (sizeOf (Try.prog.elem 86)).run Try.prog w = .ok 2 w := by kernel_rfl
  rw [hz]
  simp [sliced, Result.andThen]
  cases a <;> simp [Addr.add]
theorem slI_upto (a : Option Addr) (len cap k : Nat) (hk : k ≤ cap) (w : World) : (Instr.slice 29 (.slice a len cap) none (some (.int .i64 (k : Nat))) none).run Try.prog w = .ok (.slice a k cap) w := by
  rw [run_slice_h w 29 a len cap (by kernel_rfl) .i64 _ (by omega) (by omega)]
  have hz : (sizeOf (Try.prog.elem 29)).run Try.prog w = .ok 1 w := by kernel_rfl
  rw [hz]
  simp [sliced, Result.andThen]
  cases a <;> simp [Addr.add]
theorem choose_nat {α : Type} [Inhabited α] {n : Nat} {p : Nat → α → Prop} (h : ∀ i, i < n → ∃ v, p i v) : ∃ f : Nat → α, ∀ i, i < n → p i (f i) :=
  ⟨fun i => if hi : i < n then Classical.choose (h i hi) else default, fun i hi => by simp only [dif_pos hi]; exact Classical.choose_spec (h i hi)⟩
theorem rls_flat {w : World} {a : Option Addr} {len cap m : Nat} (h : IsFlat [.int .u8, .int .u8] w a len cap) (hm : m ≤ len) : ∃ wt tol : Nat → Int, RlS w a m cap wt tol ∧ (∀ i, i < m → 0 ≤ wt i ∧ wt i ≤ 255) ∧ (∀ i, i < m → 0 ≤ tol i ∧ tol i ≤ 255) := by
  obtain ⟨h1, h2, _, h4⟩ := h
  by_cases h0 : 0 < len
  · obtain ⟨b, off, e, hb, hx⟩ := h4 h0
    have each : ∀ i, i < len → ∃ v : Int × Int, w.cell? ⟨b, off + i * 2, none⟩ = some (.int .u8 v.1) ∧ w.cell? ⟨b, off + i * 2 + 1, none⟩ = some (.int .u8 v.2) ∧ (0 ≤ v.1 ∧ v.1 ≤ 255) ∧ (0 ≤ v.2 ∧ v.2 ≤ 255) := by
      intro i hi
      obtain ⟨cs, hf, hc⟩ := hx i hi
      match cs, hf with
      | [v0, v1], ⟨⟨z0, e0, k0⟩, ⟨z1, e1, k1⟩, _⟩ =>
        subst e0 e1
        exact ⟨(z0, z1), hc 0 _ rfl, hc 1 _ rfl, bounds_u8 k0, bounds_u8 k1⟩
    obtain ⟨f, hf⟩ := choose_nat each
    exact ⟨fun i => (f i).1, fun i => (f i).2, ⟨by omega, h2, fun _ => ⟨b, off, e, hb, fun i hi => ⟨(hf i (by omega)).1, (hf i (by omega)).2.1⟩⟩⟩, fun i hi => (hf i (by omega)).2.2.1, fun i hi => (hf i (by omega)).2.2.2⟩
  · exact ⟨fun _ => 0, fun _ => 0, ⟨by omega, h2, fun h => absurd h (by omega)⟩, fun i hi => absurd hi (by omega), fun i hi => absurd hi (by omega)⟩
theorem ints_in {w : World} {a : Option Addr} {len cap : Nat} {z : List Int} (h : IsRow .i64 w a len cap z) : ∃ l : List Int, l.length = len ∧ Rd w.heap.size w a len cap (Bs.iv l) := by
  rcases h with ⟨rfl, rfl, rfl, rfl⟩ | ⟨x, rfl, hl, hm, hz, hcell, hwz⟩
  · exact ⟨[], rfl, Rd.none_ _ _ _⟩
  · refine ⟨z.take len, by simp; omega, (rd_of_row hl hm (by omega) hcell).same fun i hi => ?_⟩
    unfold Bs.iv
    simp [List.getD, hi]
end Go.Proofs.Ytkgeeohgfbacaaa
