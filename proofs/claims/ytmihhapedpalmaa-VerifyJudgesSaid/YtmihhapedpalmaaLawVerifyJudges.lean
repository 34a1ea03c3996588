/- The statement Rows.VerifyJudgesSaid of 'aerie/aerielaw12.VerifyJudges': for every input the law answers true, and its arguments read afterwards as they read before. No condition. -/
import Derived.Test.YtmihhapedpalmaaFrame
import Derived.Test.YtmihhapedpalmaaLaw12j
import Derived.Test.YtmihhapedpalmaaAgg
import Derived.Test.YtmihhapedpalmaaFlat
namespace Go.Proofs.Ytmihhapedpalmaa.verifyJudges
open Go.ChangeShapes Go.WideShapes Go.ChangeAt Go.RowKit
open Go.ChangeMaps (open_string shut_string)
set_option linter.unusedVariables false

set_option maxRecDepth 100000 in
theorem lifted (os : Os) (started : os.Started) (H : Type) (enc : TypeId × Value → H) :
    ReturnsInHanded {} Try.checked os 5 .any (Rows.verifyJudgesSpec.pre6 enc Try.prog Try.f5 Rows.verifyJudgesRow.domain false) (Rows.verifyJudgesSpec.post enc Try.prog Try.f5 false true false false) := by
  refine returnsInHanded_of_change (C := Try.checked) own started (by kernel_rfl) Try.func5
    (ChangeSpec.witness6 (enc := enc) (C := Try.checked) false ⟨#[], #[.agg #[.int .u8 0, .int .u8 0, .int .u8 0, .int .u16 0, .slice none 0 0], .int .u16 0, .int .u16 0, .int .u16 0, .slice none 0 0, .slice none 0 0, .int .u16 0, .int .u8 0, .bool false, .int .u8 0], []⟩ 8 (by kernel_rfl) (by kernel_rfl) (by kernel_rfl) (by kernel_rfl)) ?_
  intro W base args ds gs before hval0 hW hcnd _
  have hval : ∀ (j : Nat) t v, Try.f5.params[j]? = some t → args[j]? = some v → Value.okWide Try.prog W .any base t v := hval0
  have hW' := hW
  obtain ⟨p, q, hA0, hV, rfl, hfz, hnd⟩ := hW
  have hA : DataW.TrodAll enc Try.prog W 0 (fun _ => true) true Try.f5.params.toList args.toList ds p := hA0
  rw [Try.params5] at hA hval
  obtain ⟨v0, vs0, d0, ds0, p0, q0, hargs, rfl, rfl, h0, r0⟩ := trodAll_cons hA
  obtain ⟨v1, vs1, d1, ds1, p1, q1, rfl, rfl, rfl, h1, r1⟩ := trodAll_cons r0
  obtain ⟨v2, vs2, d2, ds2, p2, q2, rfl, rfl, rfl, h2, r2⟩ := trodAll_cons r1
  obtain ⟨v3, vs3, d3, ds3, p3, q3, rfl, rfl, rfl, h3, r3⟩ := trodAll_cons r2
  obtain ⟨v4, vs4, d4, ds4, p4, q4, rfl, rfl, rfl, h4, r4⟩ := trodAll_cons r3
  obtain ⟨v5, vs5, d5, ds5, p5, q5, rfl, rfl, rfl, h5, r5⟩ := trodAll_cons r4
  obtain ⟨v6, vs6, d6, ds6, p6, q6, rfl, rfl, rfl, h6, r6⟩ := trodAll_cons r5
  obtain ⟨v7, vs7, d7, ds7, p7, q7, rfl, rfl, rfl, h7, r7⟩ := trodAll_cons r6
  obtain ⟨v8, vs8, d8, ds8, p8, q8, rfl, rfl, rfl, h8, r8⟩ := trodAll_cons r7
  obtain ⟨v9, vs9, d9, ds9, p9, q9, rfl, rfl, rfl, h9, r9⟩ := trodAll_cons r8
  obtain ⟨rfl, rfl, rfl⟩ := trodAll_nil r9
  obtain rfl : args = #[v0, v1, v2, v3, v4, v5, v6, v7, v8, v9] := by cases args; simp_all
  obtain ⟨rfl, rfl⟩ := trodVars_none hV
  have k0 := h0
  have lt0 : ∀ x ∈ p0, x.block < W.heap.size := by obtain ⟨m, hm⟩ := k0; exact DataW.trod_lt m _ _ _ hm
  obtain ⟨cs0, rfl, sz0, fd0⟩ := open_agg (n := 5) Try.underlying56 (by kernel_rfl) (hval 0 56 v0 rfl rfl) h0
  obtain ⟨u0_0, x0_0, m0_0, e0_0, t0_0⟩ := fd0 0 _ 0 rfl rfl (by kernel_rfl) (by decide)
  obtain ⟨n0_0, c0_0, _, w0_0⟩ := DataW.trod_int Try.underlying5 t0_0
  obtain rfl : u0_0 = .int .u8 n0_0 := by simpa using c0_0
  obtain ⟨u0_1, x0_1, m0_1, e0_1, t0_1⟩ := fd0 1 _ 1 rfl rfl (by kernel_rfl) (by decide)
  obtain ⟨n0_1, c0_1, _, w0_1⟩ := DataW.trod_int Try.underlying5 t0_1
  obtain rfl : u0_1 = .int .u8 n0_1 := by simpa using c0_1
  obtain ⟨u0_2, x0_2, m0_2, e0_2, t0_2⟩ := fd0 2 _ 2 rfl rfl (by kernel_rfl) (by decide)
  obtain ⟨n0_2, c0_2, _, w0_2⟩ := DataW.trod_int Try.underlying5 t0_2
  obtain rfl : u0_2 = .int .u8 n0_2 := by simpa using c0_2
  obtain ⟨u0_3, x0_3, m0_3, e0_3, t0_3⟩ := fd0 3 _ 3 rfl rfl (by kernel_rfl) (by decide)
  obtain ⟨n0_3, c0_3, _, w0_3⟩ := DataW.trod_int Try.underlying53 t0_3
  obtain rfl : u0_3 = .int .u16 n0_3 := by simpa using c0_3
  obtain ⟨u0_4, x0_4, m0_4, e0_4, t0_4⟩ := fd0 4 _ 4 rfl rfl (by kernel_rfl) (by decide)
  obtain ⟨a0_4, len0_4, cap0_4, z0_4, rfl, w0_4⟩ := isRow_field Try.underlying54 Try.underlying5 (by kernel_rfl) t0_4
  obtain rfl : cs0 = #[.int .u8 n0_0, .int .u8 n0_1, .int .u8 n0_2, .int .u16 n0_3, .slice a0_4 len0_4 cap0_4] := agg_eq (l := [.int .u8 n0_0, .int .u8 n0_1, .int .u8 n0_2, .int .u16 n0_3, .slice a0_4 len0_4 cap0_4]) sz0 (fun i hi => by
    match i, hi with
    | 0, _ => exact e0_0
    | 1, _ => exact e0_1
    | 2, _ => exact e0_2
    | 3, _ => exact e0_3
    | 4, _ => exact e0_4)
  obtain ⟨a1, rfl, rfl, rfl, w1⟩ := open_int Try.underlying53 (hval 1 53 v1 rfl rfl) h1
  obtain ⟨a2, rfl, rfl, rfl, w2⟩ := open_int Try.underlying53 (hval 2 53 v2 rfl rfl) h2
  obtain ⟨a3, rfl, rfl, rfl, w3⟩ := open_int Try.underlying53 (hval 3 53 v3 rfl rfl) h3
  obtain ⟨a4, len4, cap4, rfl⟩ := okWide_slice Try.underlying57 (hval 4 57 v4 rfl rfl)
  have k4 := h4
  have lt4 : ∀ x ∈ p4, x.block < W.heap.size := by obtain ⟨m, hm⟩ := k4; exact DataW.trod_lt m _ _ _ hm
  have w4 := isFlat_of (sh := [.int .u8, .int .u8, .int .i64, .int .i64]) Try.underlying57 (by kernel_rfl) (by kernel_rfl) (by decide) h4
  obtain ⟨a5, len5, cap5, rfl⟩ := okWide_slice Try.underlying54 (hval 5 54 v5 rfl rfl)
  have k5 := h5
  have lt5 : ∀ x ∈ p5, x.block < W.heap.size := by obtain ⟨m, hm⟩ := k5; exact DataW.trod_lt m _ _ _ hm
  obtain ⟨z5, w5⟩ := isRow_of Try.underlying54 Try.underlying5 (by kernel_rfl) h5
  obtain ⟨a6, rfl, rfl, rfl, w6⟩ := open_int Try.underlying53 (hval 6 53 v6 rfl rfl) h6
  obtain ⟨a7, rfl, rfl, rfl, w7⟩ := open_int Try.underlying5 (hval 7 5 v7 rfl rfl) h7
  obtain ⟨a8, rfl, rfl, rfl⟩ := open_bool Try.underlying4 (hval 8 4 v8 rfl rfl) h8
  obtain ⟨a9, rfl, rfl, rfl, w9⟩ := open_int Try.underlying5 (hval 9 5 v9 rfl rfl) h9
  clear hA0 hval0
  refine (walk_VerifyJudges n0_0 n0_1 n0_2 n0_3 a0_4 len0_4 cap0_4 z0_4 a1 a2 a3 a4 len4 cap4 a5 len5 cap5 z5 a6 a7 a8 a9 W w0_0 w0_1 w0_2 w0_3 w0_4 w1 w2 w3 w4 w5 w6 w7 w9).mono fun e W' ⟨he, bel⟩ => ?_
  subst he
  exact ⟨_, rfl, _, _, _, [], _, [], hW', trodAll_mk1 (shut_bool Try.underlying4 _), (trodAll_cons_mk (Below.trod laidOut (by kernel_rfl) (of_decide_eq_true (by kernel_rfl)) k0 bel lt0) (trodAll_cons_mk (shut_int Try.underlying53 w1) (trodAll_cons_mk (shut_int Try.underlying53 w2) (trodAll_cons_mk (shut_int Try.underlying53 w3) (trodAll_cons_mk (Below.trod laidOut (by kernel_rfl) (of_decide_eq_true (by kernel_rfl)) k4 bel lt4) (trodAll_cons_mk (Below.trod laidOut (by kernel_rfl) (of_decide_eq_true (by kernel_rfl)) k5 bel lt5) (trodAll_cons_mk (shut_int Try.underlying53 w6) (trodAll_cons_mk (shut_int Try.underlying5 w7) (trodAll_cons_mk (shut_bool Try.underlying4 _) (trodAll_cons_mk (shut_int Try.underlying5 w9) trodAll_mk0)))))))))), rfl, bel.frame _, fun h => by cases h⟩

theorem over : Rows.verifyJudgesRow.holds Try.pinned (OpenSpec.ofChange Rows.verifyJudgesSpec) :=
  OpenClaim.holds_of_wide 5 Try.f5 rfl rfl rfl rfl rfl rfl rfl ⟨rfl, rfl, rfl, rfl, rfl⟩ rfl rfl rfl rfl rfl (by kernel_rfl) Try.func5 (by kernel_rfl)
    (of_decide_eq_true (by kernel_rfl)) (by unfold Func.isWrapper; first | (rw [if_pos (by decide +kernel)]; kernel_rfl) | (rw [if_neg (by decide +kernel)]; exact ⟨rfl, rfl⟩))
    (fun os started H enc _ => lifted os started H enc)

end Go.Proofs.Ytmihhapedpalmaa.verifyJudges
namespace Go.Proofs.Ytmihhapedpalmaa
/-- THE STATEMENT -/
theorem proved_VerifyJudges : Rows.VerifyJudgesSaid := verifyJudges.over
end Go.Proofs.Ytmihhapedpalmaa
