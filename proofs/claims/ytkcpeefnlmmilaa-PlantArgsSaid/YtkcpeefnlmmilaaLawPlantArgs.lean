/- The statement Rows.PlantArgsSaid of 'aerie/aerielaw14.PlantArgs': for every input the law answers true, and its arguments read afterwards as they read before. No condition. -/
import Derived.Test.YtkcpeefnlmmilaaFrame
import Derived.Test.YtkcpeefnlmmilaaLaw14a
import Derived.Test.YtkcpeefnlmmilaaAgg
namespace Go.Proofs.Ytkcpeefnlmmilaa.plantArgs
open Go.ChangeShapes Go.WideShapes Go.ChangeAt Go.RowKit
open Go.ChangeMaps (open_string shut_string)
set_option linter.unusedVariables false

set_option maxRecDepth 100000 in
theorem lifted (os : Os) (started : os.Started) (H : Type) (enc : TypeId × Value → H) :
    ReturnsInHanded {} Try.checked os 12 .any (Rows.plantArgsSpec.pre6 enc Try.prog Try.f12 Rows.plantArgsRow.domain false) (Rows.plantArgsSpec.post enc Try.prog Try.f12 false true false false) := by
  refine returnsInHanded_of_change (C := Try.checked) own started (by kernel_rfl) Try.func12
    (ChangeSpec.witness6 (enc := enc) (C := Try.checked) false ⟨#[], #[.int .u8 0, .int .i64 0, .agg #[.int .u8 0, .int .u8 0]], []⟩ 8 (by kernel_rfl) (by kernel_rfl) (by kernel_rfl) (by kernel_rfl)) ?_
  intro W base args ds gs before hval0 hW hcnd _
  have hval : ∀ (j : Nat) t v, Try.f12.params[j]? = some t → args[j]? = some v → Value.okWide Try.prog W .any base t v := hval0
  have hW' := hW
  obtain ⟨p, q, hA0, hV, rfl, hfz, hnd⟩ := hW
  have hA : DataW.TrodAll enc Try.prog W 0 (fun _ => true) true Try.f12.params.toList args.toList ds p := hA0
  rw [Try.params12] at hA hval
  obtain ⟨v0, vs0, d0, ds0, p0, q0, hargs, rfl, rfl, h0, r0⟩ := trodAll_cons hA
  obtain ⟨v1, vs1, d1, ds1, p1, q1, rfl, rfl, rfl, h1, r1⟩ := trodAll_cons r0
  obtain ⟨v2, vs2, d2, ds2, p2, q2, rfl, rfl, rfl, h2, r2⟩ := trodAll_cons r1
  obtain ⟨rfl, rfl, rfl⟩ := trodAll_nil r2
  obtain rfl : args = #[v0, v1, v2] := by cases args; simp_all
  obtain ⟨rfl, rfl⟩ := trodVars_none hV
  obtain ⟨a0, rfl, rfl, rfl, w0⟩ := open_int Try.underlying5 (hval 0 5 v0 rfl rfl) h0
  obtain ⟨a1, rfl, rfl, rfl, w1⟩ := open_int Try.underlying3 (hval 1 3 v1 rfl rfl) h1
  have k2 := h2
  have lt2 : ∀ x ∈ p2, x.block < W.heap.size := by obtain ⟨m, hm⟩ := k2; exact DataW.trod_lt m _ _ _ hm
  obtain ⟨cs2, rfl, sz2, fd2⟩ := open_agg (n := 2) Try.underlying107 (by kernel_rfl) (hval 2 107 v2 rfl rfl) h2
  obtain ⟨u2_0, x2_0, m2_0, e2_0, t2_0⟩ := fd2 0 _ 0 rfl rfl (by kernel_rfl) (by decide)
  obtain ⟨n2_0, c2_0, _, w2_0⟩ := DataW.trod_int Try.underlying5 t2_0
  obtain rfl : u2_0 = .int .u8 n2_0 := by simpa using c2_0
  obtain ⟨u2_1, x2_1, m2_1, e2_1, t2_1⟩ := fd2 1 _ 1 rfl rfl (by kernel_rfl) (by decide)
  obtain ⟨n2_1, c2_1, _, w2_1⟩ := DataW.trod_int Try.underlying5 t2_1
  obtain rfl : u2_1 = .int .u8 n2_1 := by simpa using c2_1
  obtain rfl : cs2 = #[.int .u8 n2_0, .int .u8 n2_1] := agg_eq (l := [.int .u8 n2_0, .int .u8 n2_1]) sz2 (fun i hi => by
    match i, hi with
    | 0, _ => exact e2_0
    | 1, _ => exact e2_1)
  clear hA0 hval0
  refine (walk_PlantArgs a0 a1 n2_0 n2_1 W w0 w1 w2_0 w2_1).mono fun e W' ⟨he, bel⟩ => ?_
  subst he
  exact ⟨_, rfl, _, _, _, [], _, [], hW', trodAll_mk1 (shut_bool Try.underlying4 _), (trodAll_cons_mk (shut_int Try.underlying5 w0) (trodAll_cons_mk (shut_int Try.underlying3 w1) (trodAll_cons_mk (Below.trod laidOut (by kernel_rfl) (of_decide_eq_true (by kernel_rfl)) k2 bel lt2) trodAll_mk0))), rfl, bel.frame _, fun h => by cases h⟩

theorem over : Rows.plantArgsRow.holds Try.pinned (OpenSpec.ofChange Rows.plantArgsSpec) :=
  OpenClaim.holds_of_wide 12 Try.f12 rfl rfl rfl rfl rfl rfl rfl ⟨rfl, rfl, rfl, rfl, rfl⟩ rfl rfl rfl rfl rfl (by kernel_rfl) Try.func12 (by kernel_rfl)
    (of_decide_eq_true (by kernel_rfl)) (by unfold Func.isWrapper; first | (rw [if_pos (by decide +kernel)]; kernel_rfl) | (rw [if_neg (by decide +kernel)]; exact ⟨rfl, rfl⟩))
    (fun os started H enc _ => lifted os started H enc)

end Go.Proofs.Ytkcpeefnlmmilaa.plantArgs
namespace Go.Proofs.Ytkcpeefnlmmilaa
/-- THE STATEMENT -/
theorem proved_PlantArgs : Rows.PlantArgsSaid := plantArgs.over
end Go.Proofs.Ytkcpeefnlmmilaa
