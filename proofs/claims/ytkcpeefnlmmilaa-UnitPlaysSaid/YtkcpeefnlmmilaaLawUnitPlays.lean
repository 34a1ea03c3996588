/- The statement Rows.UnitPlaysSaid of 'aerie/aerielaw13.UnitPlays': for every input the law answers true, and its arguments read afterwards as they read before. No condition. -/
import Derived.Test.YtkcpeefnlmmilaaFrame
import Derived.Test.YtkcpeefnlmmilaaLaw13p
import Derived.Test.YtkcpeefnlmmilaaAgg
import Derived.Test.YtkcpeefnlmmilaaFlat
namespace Go.Proofs.Ytkcpeefnlmmilaa.unitPlays
open Go.ChangeShapes Go.WideShapes Go.ChangeAt Go.RowKit
open Go.ChangeMaps (open_string shut_string)
set_option linter.unusedVariables false

set_option maxRecDepth 100000 in
theorem lifted (os : Os) (started : os.Started) (H : Type) (enc : TypeId × Value → H) :
    ReturnsInHanded {} Try.checked os 9 .any (Rows.unitPlaysSpec.pre6 enc Try.prog Try.f9 Rows.unitPlaysRow.domain false) (Rows.unitPlaysSpec.post enc Try.prog Try.f9 false true false false) := by
  refine returnsInHanded_of_change (C := Try.checked) own started (by kernel_rfl) Try.func9
    (ChangeSpec.witness6 (enc := enc) (C := Try.checked) false ⟨#[], #[.agg #[.int .u8 0, .int .u8 0], .slice none 0 0], []⟩ 8 (by kernel_rfl) (by kernel_rfl) (by kernel_rfl) (by kernel_rfl)) ?_
  intro W base args ds gs before hval0 hW hcnd _
  have hval : ∀ (j : Nat) t v, Try.f9.params[j]? = some t → args[j]? = some v → Value.okWide Try.prog W .any base t v := hval0
  have hW' := hW
  obtain ⟨p, q, hA0, hV, rfl, hfz, hnd⟩ := hW
  have hA : DataW.TrodAll enc Try.prog W 0 (fun _ => true) true Try.f9.params.toList args.toList ds p := hA0
  rw [Try.params9] at hA hval
  obtain ⟨v0, vs0, d0, ds0, p0, q0, hargs, rfl, rfl, h0, r0⟩ := trodAll_cons hA
  obtain ⟨v1, vs1, d1, ds1, p1, q1, rfl, rfl, rfl, h1, r1⟩ := trodAll_cons r0
  obtain ⟨rfl, rfl, rfl⟩ := trodAll_nil r1
  obtain rfl : args = #[v0, v1] := by cases args; simp_all
  obtain ⟨rfl, rfl⟩ := trodVars_none hV
  have k0 := h0
  have lt0 : ∀ x ∈ p0, x.block < W.heap.size := by obtain ⟨m, hm⟩ := k0; exact DataW.trod_lt m _ _ _ hm
  obtain ⟨cs0, rfl, sz0, fd0⟩ := open_agg (n := 2) Try.underlying107 (by kernel_rfl) (hval 0 107 v0 rfl rfl) h0
  obtain ⟨u0_0, x0_0, m0_0, e0_0, t0_0⟩ := fd0 0 _ 0 rfl rfl (by kernel_rfl) (by decide)
  obtain ⟨n0_0, c0_0, _, w0_0⟩ := DataW.trod_int Try.underlying5 t0_0
  obtain rfl : u0_0 = .int .u8 n0_0 := by simpa using c0_0
  obtain ⟨u0_1, x0_1, m0_1, e0_1, t0_1⟩ := fd0 1 _ 1 rfl rfl (by kernel_rfl) (by decide)
  obtain ⟨n0_1, c0_1, _, w0_1⟩ := DataW.trod_int Try.underlying5 t0_1
  obtain rfl : u0_1 = .int .u8 n0_1 := by simpa using c0_1
  obtain rfl : cs0 = #[.int .u8 n0_0, .int .u8 n0_1] := agg_eq (l := [.int .u8 n0_0, .int .u8 n0_1]) sz0 (fun i hi => by
    match i, hi with
    | 0, _ => exact e0_0
    | 1, _ => exact e0_1)
  obtain ⟨a1, len1, cap1, rfl⟩ := okWide_slice Try.underlying108 (hval 1 108 v1 rfl rfl)
  have k1 := h1
  have lt1 : ∀ x ∈ p1, x.block < W.heap.size := by obtain ⟨m, hm⟩ := k1; exact DataW.trod_lt m _ _ _ hm
  have w1 := isFlat_of (sh := [.int .u8, .bool, .bool]) Try.underlying108 (by kernel_rfl) (by kernel_rfl) (by decide) h1
  clear hA0 hval0
  refine (walk_UnitPlays n0_0 n0_1 a1 len1 cap1 W w0_0 w0_1 w1).mono fun e W' ⟨he, bel⟩ => ?_
  subst he
  exact ⟨_, rfl, _, _, _, [], _, [], hW', trodAll_mk1 (shut_bool Try.underlying4 _), (trodAll_cons_mk (Below.trod laidOut (by kernel_rfl) (of_decide_eq_true (by kernel_rfl)) k0 bel lt0) (trodAll_cons_mk (Below.trod laidOut (by kernel_rfl) (of_decide_eq_true (by kernel_rfl)) k1 bel lt1) trodAll_mk0)), rfl, bel.frame _, fun h => by cases h⟩

theorem over : Rows.unitPlaysRow.holds Try.pinned (OpenSpec.ofChange Rows.unitPlaysSpec) :=
  OpenClaim.holds_of_wide 9 Try.f9 rfl rfl rfl rfl rfl rfl rfl ⟨rfl, rfl, rfl, rfl, rfl⟩ rfl rfl rfl rfl rfl (by kernel_rfl) Try.func9 (by kernel_rfl)
    (of_decide_eq_true (by kernel_rfl)) (by unfold Func.isWrapper; first | (rw [if_pos (by decide +kernel)]; kernel_rfl) | (rw [if_neg (by decide +kernel)]; exact ⟨rfl, rfl⟩))
    (fun os started H enc _ => lifted os started H enc)

end Go.Proofs.Ytkcpeefnlmmilaa.unitPlays
namespace Go.Proofs.Ytkcpeefnlmmilaa
/-- THE STATEMENT -/
theorem proved_UnitPlays : Rows.UnitPlaysSaid := unitPlays.over
end Go.Proofs.Ytkcpeefnlmmilaa
