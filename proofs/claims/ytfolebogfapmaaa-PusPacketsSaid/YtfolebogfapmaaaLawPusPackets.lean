/- The statement Rows.PusPacketsSaid of 'aerie/aerielaw10.PusPackets': for every input the law answers true, and its arguments read afterwards as they read before. No condition. -/
import Derived.Test.YtfolebogfapmaaaFrame
import Derived.Test.YtfolebogfapmaaaLaw10x
import Derived.Test.YtfolebogfapmaaaAgg
namespace Go.Proofs.Ytfolebogfapmaaa.pusPackets
open Go.ChangeShapes Go.WideShapes Go.ChangeAt Go.RowKit
open Go.ChangeMaps (open_string shut_string)
set_option linter.unusedVariables false

set_option maxRecDepth 100000 in
theorem lifted (os : Os) (started : os.Started) (H : Type) (enc : TypeId × Value → H) :
    ReturnsInHanded {} Try.checked os 7 .any (Rows.pusPacketsSpec.pre6 enc Try.prog Try.f7 Rows.pusPacketsRow.domain false) (Rows.pusPacketsSpec.post enc Try.prog Try.f7 false true false false) := by
  refine returnsInHanded_of_change (C := Try.checked) own started (by kernel_rfl) Try.func7
    (ChangeSpec.witness6 (enc := enc) (C := Try.checked) false ⟨#[], #[.agg #[.int .u8 0, .int .u8 0, .int .u8 0, .int .u16 0, .slice none 0 0], .agg #[.int .u8 0, .int .u8 0, .int .u16 0, .int .u32 0, .slice none 0 0], .int .u16 0, .int .u16 0], []⟩ 8 (by kernel_rfl) (by kernel_rfl) (by kernel_rfl) (by kernel_rfl)) ?_
  intro W base args ds gs before hval0 hW hcnd _
  have hval : ∀ (j : Nat) t v, Try.f7.params[j]? = some t → args[j]? = some v → Value.okWide Try.prog W .any base t v := hval0
  have hW' := hW
  obtain ⟨p, q, hA0, hV, rfl, hfz, hnd⟩ := hW
  have hA : DataW.TrodAll enc Try.prog W 0 (fun _ => true) true Try.f7.params.toList args.toList ds p := hA0
  rw [Try.params7] at hA hval
  obtain ⟨v0, vs0, d0, ds0, p0, q0, hargs, rfl, rfl, h0, r0⟩ := trodAll_cons hA
  obtain ⟨v1, vs1, d1, ds1, p1, q1, rfl, rfl, rfl, h1, r1⟩ := trodAll_cons r0
  obtain ⟨v2, vs2, d2, ds2, p2, q2, rfl, rfl, rfl, h2, r2⟩ := trodAll_cons r1
  obtain ⟨v3, vs3, d3, ds3, p3, q3, rfl, rfl, rfl, h3, r3⟩ := trodAll_cons r2
  obtain ⟨rfl, rfl, rfl⟩ := trodAll_nil r3
  obtain rfl : args = #[v0, v1, v2, v3] := by cases args; simp_all
  obtain ⟨rfl, rfl⟩ := trodVars_none hV
  have k0 := h0
  have lt0 : ∀ x ∈ p0, x.block < W.heap.size := by obtain ⟨m, hm⟩ := k0; exact DataW.trod_lt m _ _ _ hm
  obtain ⟨cs0, rfl, sz0, fd0⟩ := open_agg (n := 5) Try.underlying42 (by kernel_rfl) (hval 0 42 v0 rfl rfl) h0
  obtain ⟨u0_0, x0_0, m0_0, e0_0, t0_0⟩ := fd0 0 _ 0 rfl rfl (by kernel_rfl) (by decide)
  obtain ⟨n0_0, c0_0, _, w0_0⟩ := DataW.trod_int Try.underlying5 t0_0
  obtain rfl : u0_0 = .int .u8 n0_0 := by simpa using c0_0
  obtain ⟨u0_1, x0_1, m0_1, e0_1, t0_1⟩ := fd0 1 _ 1 rfl rfl (by kernel_rfl) (by decide)
  obtain ⟨n0_1, c0_1, _, w0_1⟩ := DataW.trod_int Try.underlying5 t0_1
  obtain rfl : u0_1 = .int .u8 n0_1 := by simpa using c0_1
  obtain ⟨u0_2, x0_2, m0_2, e0_2, t0_2⟩ := fd0 2 _ 2 rfl rfl (by kernel_rfl) (by decide)
  obtain ⟨n0_2, c0_2, _, w0_2⟩ := DataW.trod_int Try.underlying5 t0_2
  obtain rfl : u0_2 = .int .u8 n0_2 := by simpa using c0_2
  obtain ⟨u0_3, x0_3, m0_3, e0_3, t0_3⟩ := fd0 3 _ 3 rfl rfl (by kernel_rfl) (by decide)
  obtain ⟨n0_3, c0_3, _, w0_3⟩ := DataW.trod_int Try.underlying26 t0_3
  obtain rfl : u0_3 = .int .u16 n0_3 := by simpa using c0_3
  obtain ⟨u0_4, x0_4, m0_4, e0_4, t0_4⟩ := fd0 4 _ 4 rfl rfl (by kernel_rfl) (by decide)
  obtain ⟨a0_4, len0_4, cap0_4, z0_4, rfl, w0_4⟩ := isRow_field Try.underlying23 Try.underlying5 (by kernel_rfl) t0_4
  obtain rfl : cs0 = #[.int .u8 n0_0, .int .u8 n0_1, .int .u8 n0_2, .int .u16 n0_3, .slice a0_4 len0_4 cap0_4] := agg_eq (l := [.int .u8 n0_0, .int .u8 n0_1, .int .u8 n0_2, .int .u16 n0_3, .slice a0_4 len0_4 cap0_4]) sz0 (fun i hi => by
    match i, hi with
    | 0, _ => exact e0_0
    | 1, _ => exact e0_1
    | 2, _ => exact e0_2
    | 3, _ => exact e0_3
    | 4, _ => exact e0_4)
  have k1 := h1
  have lt1 : ∀ x ∈ p1, x.block < W.heap.size := by obtain ⟨m, hm⟩ := k1; exact DataW.trod_lt m _ _ _ hm
  obtain ⟨cs1, rfl, sz1, fd1⟩ := open_agg (n := 5) Try.underlying59 (by kernel_rfl) (hval 1 59 v1 rfl rfl) h1
  obtain ⟨u1_0, x1_0, m1_0, e1_0, t1_0⟩ := fd1 0 _ 0 rfl rfl (by kernel_rfl) (by decide)
  obtain ⟨n1_0, c1_0, _, w1_0⟩ := DataW.trod_int Try.underlying5 t1_0
  obtain rfl : u1_0 = .int .u8 n1_0 := by simpa using c1_0
  obtain ⟨u1_1, x1_1, m1_1, e1_1, t1_1⟩ := fd1 1 _ 1 rfl rfl (by kernel_rfl) (by decide)
  obtain ⟨n1_1, c1_1, _, w1_1⟩ := DataW.trod_int Try.underlying5 t1_1
  obtain rfl : u1_1 = .int .u8 n1_1 := by simpa using c1_1
  obtain ⟨u1_2, x1_2, m1_2, e1_2, t1_2⟩ := fd1 2 _ 2 rfl rfl (by kernel_rfl) (by decide)
  obtain ⟨n1_2, c1_2, _, w1_2⟩ := DataW.trod_int Try.underlying26 t1_2
  obtain rfl : u1_2 = .int .u16 n1_2 := by simpa using c1_2
  obtain ⟨u1_3, x1_3, m1_3, e1_3, t1_3⟩ := fd1 3 _ 3 rfl rfl (by kernel_rfl) (by decide)
  obtain ⟨n1_3, c1_3, _, w1_3⟩ := DataW.trod_int Try.underlying57 t1_3
  obtain rfl : u1_3 = .int .u32 n1_3 := by simpa using c1_3
  obtain ⟨u1_4, x1_4, m1_4, e1_4, t1_4⟩ := fd1 4 _ 4 rfl rfl (by kernel_rfl) (by decide)
  obtain ⟨a1_4, len1_4, cap1_4, z1_4, rfl, w1_4⟩ := isRow_field Try.underlying23 Try.underlying5 (by kernel_rfl) t1_4
  obtain rfl : cs1 = #[.int .u8 n1_0, .int .u8 n1_1, .int .u16 n1_2, .int .u32 n1_3, .slice a1_4 len1_4 cap1_4] := agg_eq (l := [.int .u8 n1_0, .int .u8 n1_1, .int .u16 n1_2, .int .u32 n1_3, .slice a1_4 len1_4 cap1_4]) sz1 (fun i hi => by
    match i, hi with
    | 0, _ => exact e1_0
    | 1, _ => exact e1_1
    | 2, _ => exact e1_2
    | 3, _ => exact e1_3
    | 4, _ => exact e1_4)
  obtain ⟨a2, rfl, rfl, rfl, w2⟩ := open_int Try.underlying26 (hval 2 26 v2 rfl rfl) h2
  obtain ⟨a3, rfl, rfl, rfl, w3⟩ := open_int Try.underlying26 (hval 3 26 v3 rfl rfl) h3
  clear hA0 hval0
  refine (walk_PusPackets n0_0 n0_1 n0_2 n0_3 a0_4 len0_4 cap0_4 z0_4 n1_0 n1_1 n1_2 n1_3 a1_4 len1_4 cap1_4 z1_4 a2 a3 W w0_0 w0_1 w0_2 w0_3 w0_4 w1_0 w1_1 w1_2 w1_3 w1_4 w2 w3).mono fun e W' ⟨he, bel⟩ => ?_
  subst he
  exact ⟨_, rfl, _, _, _, [], _, [], hW', trodAll_mk1 (shut_bool Try.underlying4 _), (trodAll_cons_mk (Below.trod laidOut (by kernel_rfl) (of_decide_eq_true (by kernel_rfl)) k0 bel lt0) (trodAll_cons_mk (Below.trod laidOut (by kernel_rfl) (of_decide_eq_true (by kernel_rfl)) k1 bel lt1) (trodAll_cons_mk (shut_int Try.underlying26 w2) (trodAll_cons_mk (shut_int Try.underlying26 w3) trodAll_mk0)))), rfl, bel.frame _, fun h => by cases h⟩

theorem over : Rows.pusPacketsRow.holds Try.pinned (OpenSpec.ofChange Rows.pusPacketsSpec) :=
  OpenClaim.holds_of_wide 7 Try.f7 rfl rfl rfl rfl rfl rfl rfl ⟨rfl, rfl, rfl, rfl, rfl⟩ rfl rfl rfl rfl rfl (by kernel_rfl) Try.func7 (by kernel_rfl)
    (of_decide_eq_true (by kernel_rfl)) (by unfold Func.isWrapper; first | (rw [if_pos (by decide +kernel)]; kernel_rfl) | (rw [if_neg (by decide +kernel)]; exact ⟨rfl, rfl⟩))
    (fun os started H enc _ => lifted os started H enc)

end Go.Proofs.Ytfolebogfapmaaa.pusPackets
namespace Go.Proofs.Ytfolebogfapmaaa
/-- THE STATEMENT -/
theorem proved_PusPackets : Rows.PusPacketsSaid := pusPackets.over
end Go.Proofs.Ytfolebogfapmaaa
