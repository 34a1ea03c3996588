/- The statement Rows.ModeStepsSaid of 'aerie/aerielaw24.ModeSteps': for every input the law answers true, and its arguments read afterwards as they read before. No condition. -/
import Derived.Test.YtnjkpamjjdkmoaaFrame
import Derived.Test.YtnjkpamjjdkmoaaLaw24s
import Derived.Test.YtnjkpamjjdkmoaaAgg
import Derived.Test.YtnjkpamjjdkmoaaFlat
namespace Go.Proofs.Ytnjkpamjjdkmoaa.modeSteps
open Go.ChangeShapes Go.WideShapes Go.ChangeAt Go.RowKit
open Go.ChangeMaps (open_string shut_string)
set_option linter.unusedVariables false

set_option maxRecDepth 100000 in
theorem lifted (os : Os) (started : os.Started) (H : Type) (enc : TypeId × Value → H) :
    ReturnsInHanded {} Try.checked os 11 .any (Rows.modeStepsSpec.pre6 enc Try.prog Try.f11 Rows.modeStepsRow.domain false) (Rows.modeStepsSpec.post enc Try.prog Try.f11 false true false false) := by
  refine returnsInHanded_of_change (C := Try.checked) own started (by kernel_rfl) Try.func11
    (ChangeSpec.witness6 (enc := enc) (C := Try.checked) false ⟨#[], #[.agg #[.int .u8 0, .int .u16 0, .int .u8 0, .int .u8 0, .int .u8 0], .agg #[.int .u8 0, .int .u8 0, .int .u8 0, .int .u16 0, .int .u16 0, .int .u16 0, .int .u16 0], .bool false, .bool false, .bool false, .int .u8 0], []⟩ 8 (by kernel_rfl) (by kernel_rfl) (by kernel_rfl) (by kernel_rfl)) ?_
  intro W base args ds gs before hval0 hW hcnd _
  have hval : ∀ (j : Nat) t v, Try.f11.params[j]? = some t → args[j]? = some v → Value.okWide Try.prog W .any base t v := hval0
  have hW' := hW
  obtain ⟨p, q, hA0, hV, rfl, hfz, hnd⟩ := hW
  have hA : DataW.TrodAll enc Try.prog W 0 (fun _ => true) true Try.f11.params.toList args.toList ds p := hA0
  rw [Try.params11] at hA hval
  obtain ⟨v0, vs0, d0, ds0, p0, q0, hargs, rfl, rfl, h0, r0⟩ := trodAll_cons hA
  obtain ⟨v1, vs1, d1, ds1, p1, q1, rfl, rfl, rfl, h1, r1⟩ := trodAll_cons r0
  obtain ⟨v2, vs2, d2, ds2, p2, q2, rfl, rfl, rfl, h2, r2⟩ := trodAll_cons r1
  obtain ⟨v3, vs3, d3, ds3, p3, q3, rfl, rfl, rfl, h3, r3⟩ := trodAll_cons r2
  obtain ⟨v4, vs4, d4, ds4, p4, q4, rfl, rfl, rfl, h4, r4⟩ := trodAll_cons r3
  obtain ⟨v5, vs5, d5, ds5, p5, q5, rfl, rfl, rfl, h5, r5⟩ := trodAll_cons r4
  obtain ⟨rfl, rfl, rfl⟩ := trodAll_nil r5
  obtain rfl : args = #[v0, v1, v2, v3, v4, v5] := by cases args; simp_all
  obtain ⟨rfl, rfl⟩ := trodVars_none hV
  have k0 := h0
  have lt0 : ∀ x ∈ p0, x.block < W.heap.size := by obtain ⟨m, hm⟩ := k0; exact DataW.trod_lt m _ _ _ hm
  obtain ⟨cs0, rfl, sz0, fd0⟩ := open_agg (n := 5) Try.underlying123 (by kernel_rfl) (hval 0 123 v0 rfl rfl) h0
  obtain ⟨u0_0, x0_0, m0_0, e0_0, t0_0⟩ := fd0 0 _ 0 rfl rfl (by kernel_rfl) (by decide)
  obtain ⟨n0_0, c0_0, _, w0_0⟩ := DataW.trod_int Try.underlying5 t0_0
  obtain rfl : u0_0 = .int .u8 n0_0 := by simpa using c0_0
  obtain ⟨u0_1, x0_1, m0_1, e0_1, t0_1⟩ := fd0 1 _ 1 rfl rfl (by kernel_rfl) (by decide)
  obtain ⟨n0_1, c0_1, _, w0_1⟩ := DataW.trod_int Try.underlying59 t0_1
  obtain rfl : u0_1 = .int .u16 n0_1 := by simpa using c0_1
  obtain ⟨u0_2, x0_2, m0_2, e0_2, t0_2⟩ := fd0 2 _ 2 rfl rfl (by kernel_rfl) (by decide)
  obtain ⟨n0_2, c0_2, _, w0_2⟩ := DataW.trod_int Try.underlying5 t0_2
  obtain rfl : u0_2 = .int .u8 n0_2 := by simpa using c0_2
  obtain ⟨u0_3, x0_3, m0_3, e0_3, t0_3⟩ := fd0 3 _ 3 rfl rfl (by kernel_rfl) (by decide)
  obtain ⟨n0_3, c0_3, _, w0_3⟩ := DataW.trod_int Try.underlying5 t0_3
  obtain rfl : u0_3 = .int .u8 n0_3 := by simpa using c0_3
  obtain ⟨u0_4, x0_4, m0_4, e0_4, t0_4⟩ := fd0 4 _ 4 rfl rfl (by kernel_rfl) (by decide)
  obtain ⟨n0_4, c0_4, _, w0_4⟩ := DataW.trod_int Try.underlying5 t0_4
  obtain rfl : u0_4 = .int .u8 n0_4 := by simpa using c0_4
  obtain rfl : cs0 = #[.int .u8 n0_0, .int .u16 n0_1, .int .u8 n0_2, .int .u8 n0_3, .int .u8 n0_4] := agg_eq (l := [.int .u8 n0_0, .int .u16 n0_1, .int .u8 n0_2, .int .u8 n0_3, .int .u8 n0_4]) sz0 (fun i hi => by
    match i, hi with
    | 0, _ => exact e0_0
    | 1, _ => exact e0_1
    | 2, _ => exact e0_2
    | 3, _ => exact e0_3
    | 4, _ => exact e0_4)
  have k1 := h1
  have lt1 : ∀ x ∈ p1, x.block < W.heap.size := by obtain ⟨m, hm⟩ := k1; exact DataW.trod_lt m _ _ _ hm
  obtain ⟨cs1, rfl, w1⟩ := open_flat (sh := [.int .u8, .int .u8, .int .u8, .int .u16, .int .u16, .int .u16, .int .u16]) (by kernel_rfl) (by kernel_rfl) (hval 1 126 v1 rfl rfl) h1
  obtain ⟨a2, rfl, rfl, rfl⟩ := open_bool Try.underlying4 (hval 2 4 v2 rfl rfl) h2
  obtain ⟨a3, rfl, rfl, rfl⟩ := open_bool Try.underlying4 (hval 3 4 v3 rfl rfl) h3
  obtain ⟨a4, rfl, rfl, rfl⟩ := open_bool Try.underlying4 (hval 4 4 v4 rfl rfl) h4
  obtain ⟨a5, rfl, rfl, rfl, w5⟩ := open_int Try.underlying5 (hval 5 5 v5 rfl rfl) h5
  clear hA0 hval0
  refine (walk_ModeSteps n0_0 n0_1 n0_2 n0_3 n0_4 cs1 a2 a3 a4 a5 W w0_0 w0_1 w0_2 w0_3 w0_4 w1 w5).mono fun e W' ⟨he, bel⟩ => ?_
  subst he
  exact ⟨_, rfl, _, _, _, [], _, [], hW', trodAll_mk1 (shut_bool Try.underlying4 _), (trodAll_cons_mk (Below.trod laidOut (by kernel_rfl) (of_decide_eq_true (by kernel_rfl)) k0 bel lt0) (trodAll_cons_mk (Below.trod laidOut (by kernel_rfl) (of_decide_eq_true (by kernel_rfl)) k1 bel lt1) (trodAll_cons_mk (shut_bool Try.underlying4 _) (trodAll_cons_mk (shut_bool Try.underlying4 _) (trodAll_cons_mk (shut_bool Try.underlying4 _) (trodAll_cons_mk (shut_int Try.underlying5 w5) trodAll_mk0)))))), rfl, bel.frame _, fun h => by cases h⟩

theorem over : Rows.modeStepsRow.holds Try.pinned (OpenSpec.ofChange Rows.modeStepsSpec) :=
  OpenClaim.holds_of_wide 11 Try.f11 rfl rfl rfl rfl rfl rfl rfl ⟨rfl, rfl, rfl, rfl, rfl⟩ rfl rfl rfl rfl rfl (by kernel_rfl) Try.func11 (by kernel_rfl)
    (of_decide_eq_true (by kernel_rfl)) (by unfold Func.isWrapper; first | (rw [if_pos (by decide +kernel)]; kernel_rfl) | (rw [if_neg (by decide +kernel)]; exact ⟨rfl, rfl⟩))
    (fun os started H enc _ => lifted os started H enc)

end Go.Proofs.Ytnjkpamjjdkmoaa.modeSteps
namespace Go.Proofs.Ytnjkpamjjdkmoaa
/-- THE STATEMENT -/
theorem proved_ModeSteps : Rows.ModeStepsSaid := modeSteps.over
end Go.Proofs.Ytnjkpamjjdkmoaa
