/- The statement Rows.FdirRaisesSaid of 'aerie/aerielaw22.FdirRaises': for every input the law answers true, and its arguments read afterwards as they read before. No condition. -/
import Derived.Test.YtinaimacocgemaaFrame
import Derived.Test.YtinaimacocgemaaLaw22a
import Derived.Test.YtinaimacocgemaaFlat
import Derived.Test.YtinaimacocgemaaAgg
namespace Go.Proofs.Ytinaimacocgemaa.fdirRaises
open Go.ChangeShapes Go.WideShapes Go.ChangeAt Go.RowKit
open Go.ChangeMaps (open_string shut_string)
set_option linter.unusedVariables false

set_option maxRecDepth 100000 in
theorem lifted (os : Os) (started : os.Started) (H : Type) (enc : TypeId × Value → H) :
    ReturnsInHanded {} Try.checked os 7 .any (Rows.fdirRaisesSpec.pre6 enc Try.prog Try.f7 Rows.fdirRaisesRow.domain false) (Rows.fdirRaisesSpec.post enc Try.prog Try.f7 false true false false) := by
  refine returnsInHanded_of_change (C := Try.checked) own started (by kernel_rfl) Try.func7
    (ChangeSpec.witness6 (enc := enc) (C := Try.checked) false ⟨#[], #[.agg #[.int .u8 0, .int .u8 0, .int .u8 0, .int .u8 0, .int .u8 0, .int .u8 0, .int .u8 0, .int .u8 0, .int .u8 0, .int .u8 0], .agg #[.int .u8 0, .int .i64 0, .int .u8 0], .int .u8 0, .int .u8 0], []⟩ 8 (by kernel_rfl) (by kernel_rfl) (by kernel_rfl) (by kernel_rfl)) ?_
  intro W base args ds gs before hval0 hW hcnd _
  have hval : ∀ (j : Nat) t v, Try.f7.params[j]? = some t → args[j]? = some v → Value.okWide Try.prog W .any base t v := hval0
  have hW' := hW
  obtain ⟨p, q, hA0, hV, rfl, hfz, hnd⟩ := hW
  have hA : DataW.TrodAll enc Try.prog W 0 (fun _ => true) true Try.f7.params.toList args.toList ds p := hA0
  rw [Try.params7] at hA hval
  obtain ⟨v0, vs0, d0, ds0, p0, q0, hargs, rfl, rfl, h0, r0⟩ := trodAll_cons hA
  obtain ⟨v1, vs1, d1, ds1, p1, q1, rfl, rfl, rfl, h1, r1⟩ := trodAll_cons r0
  obtain ⟨v2, vs2, d2, ds2, p2, q2, rfl, rfl, rfl, h2, r2⟩ := trodAll_cons r1
  obtain ⟨v3, vs3, d3, ds3, p3, q3, rfl, rfl, rfl, h3, r3⟩ := trodAll_cons r2
  obtain ⟨rfl, rfl, rfl⟩ := trodAll_nil r3
  obtain rfl : args = #[v0, v1, v2, v3] := by cases args; simp_all
  obtain ⟨rfl, rfl⟩ := trodVars_none hV
  have k0 := h0
  have lt0 : ∀ x ∈ p0, x.block < W.heap.size := by obtain ⟨m, hm⟩ := k0; exact DataW.trod_lt m _ _ _ hm
  obtain ⟨cs0, rfl, w0⟩ := open_flat (sh := [.int .u8, .int .u8, .int .u8, .int .u8, .int .u8, .int .u8, .int .u8, .int .u8, .int .u8, .int .u8]) (by kernel_rfl) (by kernel_rfl) (hval 0 100 v0 rfl rfl) h0
  have k1 := h1
  have lt1 : ∀ x ∈ p1, x.block < W.heap.size := by obtain ⟨m, hm⟩ := k1; exact DataW.trod_lt m _ _ _ hm
  obtain ⟨cs1, rfl, sz1, fd1⟩ := open_agg (n := 3) Try.underlying84 (by kernel_rfl) (hval 1 84 v1 rfl rfl) h1
  obtain ⟨u1_0, x1_0, m1_0, e1_0, t1_0⟩ := fd1 0 _ 0 rfl rfl (by kernel_rfl) (by decide)
  obtain ⟨n1_0, c1_0, _, w1_0⟩ := DataW.trod_int Try.underlying5 t1_0
  obtain rfl : u1_0 = .int .u8 n1_0 := by simpa using c1_0
  obtain ⟨u1_1, x1_1, m1_1, e1_1, t1_1⟩ := fd1 1 _ 1 rfl rfl (by kernel_rfl) (by decide)
  obtain ⟨n1_1, c1_1, _, w1_1⟩ := DataW.trod_int Try.underlying3 t1_1
  obtain rfl : u1_1 = .int .i64 n1_1 := by simpa using c1_1
  obtain ⟨u1_2, x1_2, m1_2, e1_2, t1_2⟩ := fd1 2 _ 2 rfl rfl (by kernel_rfl) (by decide)
  obtain ⟨n1_2, c1_2, _, w1_2⟩ := DataW.trod_int Try.underlying5 t1_2
  obtain rfl : u1_2 = .int .u8 n1_2 := by simpa using c1_2
  obtain rfl : cs1 = #[.int .u8 n1_0, .int .i64 n1_1, .int .u8 n1_2] := agg_eq (l := [.int .u8 n1_0, .int .i64 n1_1, .int .u8 n1_2]) sz1 (fun i hi => by
    match i, hi with
    | 0, _ => exact e1_0
    | 1, _ => exact e1_1
    | 2, _ => exact e1_2)
  obtain ⟨a2, rfl, rfl, rfl, w2⟩ := open_int Try.underlying5 (hval 2 5 v2 rfl rfl) h2
  obtain ⟨a3, rfl, rfl, rfl, w3⟩ := open_int Try.underlying5 (hval 3 5 v3 rfl rfl) h3
  clear hA0 hval0
  refine (walk_FdirRaises cs0 n1_0 n1_1 n1_2 a2 a3 W w0 w1_0 w1_1 w1_2 w2 w3).mono fun e W' ⟨he, bel⟩ => ?_
  subst he
  exact ⟨_, rfl, _, _, _, [], _, [], hW', trodAll_mk1 (shut_bool Try.underlying4 _), (trodAll_cons_mk (Below.trod laidOut (by kernel_rfl) (of_decide_eq_true (by kernel_rfl)) k0 bel lt0) (trodAll_cons_mk (Below.trod laidOut (by kernel_rfl) (of_decide_eq_true (by kernel_rfl)) k1 bel lt1) (trodAll_cons_mk (shut_int Try.underlying5 w2) (trodAll_cons_mk (shut_int Try.underlying5 w3) trodAll_mk0)))), rfl, bel.frame _, fun h => by cases h⟩

theorem over : Rows.fdirRaisesRow.holds Try.pinned (OpenSpec.ofChange Rows.fdirRaisesSpec) :=
  OpenClaim.holds_of_wide 7 Try.f7 rfl rfl rfl rfl rfl rfl rfl ⟨rfl, rfl, rfl, rfl, rfl⟩ rfl rfl rfl rfl rfl (by kernel_rfl) Try.func7 (by kernel_rfl)
    (of_decide_eq_true (by kernel_rfl)) (by unfold Func.isWrapper; first | (rw [if_pos (by decide +kernel)]; kernel_rfl) | (rw [if_neg (by decide +kernel)]; exact ⟨rfl, rfl⟩))
    (fun os started H enc _ => lifted os started H enc)

end Go.Proofs.Ytinaimacocgemaa.fdirRaises
namespace Go.Proofs.Ytinaimacocgemaa
/-- THE STATEMENT -/
theorem proved_FdirRaises : Rows.FdirRaisesSaid := fdirRaises.over
end Go.Proofs.Ytinaimacocgemaa
