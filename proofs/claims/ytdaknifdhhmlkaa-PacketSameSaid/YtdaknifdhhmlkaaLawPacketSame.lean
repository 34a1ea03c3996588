/- The statement Rows.PacketSameSaid of 'aerie/aerielaw09.PacketSame': for every input the law answers true, and its arguments read afterwards as they read before. No condition. -/
import Derived.Test.YtdaknifdhhmlkaaFrame
import Derived.Test.YtdaknifdhhmlkaaLaw09s
import Derived.Test.YtdaknifdhhmlkaaAgg
namespace Go.Proofs.Ytdaknifdhhmlkaa.packetSame
open Go.ChangeShapes Go.WideShapes Go.ChangeAt Go.RowKit
open Go.ChangeMaps (open_string shut_string)
set_option linter.unusedVariables false

set_option maxRecDepth 100000 in
theorem lifted (os : Os) (started : os.Started) (H : Type) (enc : TypeId × Value → H) :
    ReturnsInHanded {} Try.checked os 7 .any (Rows.packetSameSpec.pre6 enc Try.prog Try.f7 Rows.packetSameRow.domain false) (Rows.packetSameSpec.post enc Try.prog Try.f7 false true false false) := by
  refine returnsInHanded_of_change (C := Try.checked) own started (by kernel_rfl) Try.func7
    (ChangeSpec.witness6 (enc := enc) (C := Try.checked) false ⟨#[], #[.agg #[.bool false, .int .u16 0, .int .u16 0, .slice none 0 0], .agg #[.bool false, .int .u16 0, .int .u16 0, .slice none 0 0], .int .u16 0], []⟩ 8 (by kernel_rfl) (by kernel_rfl) (by kernel_rfl) (by kernel_rfl)) ?_
  intro W base args ds gs before hval0 hW hcnd _
  have hval : ∀ (j : Nat) t v, Try.f7.params[j]? = some t → args[j]? = some v → Value.okWide Try.prog W .any base t v := hval0
  have hW' := hW
  obtain ⟨p, q, hA0, hV, rfl, hfz, hnd⟩ := hW
  have hA : DataW.TrodAll enc Try.prog W 0 (fun _ => true) true Try.f7.params.toList args.toList ds p := hA0
  rw [Try.params7] at hA hval
  obtain ⟨v0, vs0, d0, ds0, p0, q0, hargs, rfl, rfl, h0, r0⟩ := trodAll_cons hA
  obtain ⟨v1, vs1, d1, ds1, p1, q1, rfl, rfl, rfl, h1, r1⟩ := trodAll_cons r0
  obtain ⟨v2, vs2, d2, ds2, p2, q2, rfl, rfl, rfl, h2, r2⟩ := trodAll_cons r1
  obtain ⟨rfl, rfl, rfl⟩ := trodAll_nil r2
  obtain rfl : args = #[v0, v1, v2] := by cases args; simp_all
  obtain ⟨rfl, rfl⟩ := trodVars_none hV
  have k0 := h0
  have lt0 : ∀ x ∈ p0, x.block < W.heap.size := by obtain ⟨m, hm⟩ := k0; exact DataW.trod_lt m _ _ _ hm
  obtain ⟨cs0, rfl, sz0, fd0⟩ := open_agg (n := 4) Try.underlying56 (by kernel_rfl) (hval 0 56 v0 rfl rfl) h0
  obtain ⟨u0_0, x0_0, m0_0, e0_0, t0_0⟩ := fd0 0 _ 0 rfl rfl (by kernel_rfl) (by decide)
  obtain ⟨b0_0, c0_0, _⟩ := DataW.trod_bool Try.underlying4 t0_0
  obtain rfl : u0_0 = .bool b0_0 := by simpa using c0_0
  obtain ⟨u0_1, x0_1, m0_1, e0_1, t0_1⟩ := fd0 1 _ 1 rfl rfl (by kernel_rfl) (by decide)
  obtain ⟨n0_1, c0_1, _, w0_1⟩ := DataW.trod_int Try.underlying53 t0_1
  obtain rfl : u0_1 = .int .u16 n0_1 := by simpa using c0_1
  obtain ⟨u0_2, x0_2, m0_2, e0_2, t0_2⟩ := fd0 2 _ 2 rfl rfl (by kernel_rfl) (by decide)
  obtain ⟨n0_2, c0_2, _, w0_2⟩ := DataW.trod_int Try.underlying53 t0_2
  obtain rfl : u0_2 = .int .u16 n0_2 := by simpa using c0_2
  obtain ⟨u0_3, x0_3, m0_3, e0_3, t0_3⟩ := fd0 3 _ 3 rfl rfl (by kernel_rfl) (by decide)
  obtain ⟨a0_3, len0_3, cap0_3, z0_3, rfl, w0_3⟩ := isRow_field Try.underlying54 Try.underlying5 (by kernel_rfl) t0_3
  obtain rfl : cs0 = #[.bool b0_0, .int .u16 n0_1, .int .u16 n0_2, .slice a0_3 len0_3 cap0_3] := agg_eq (l := [.bool b0_0, .int .u16 n0_1, .int .u16 n0_2, .slice a0_3 len0_3 cap0_3]) sz0 (fun i hi => by
    match i, hi with
    | 0, _ => exact e0_0
    | 1, _ => exact e0_1
    | 2, _ => exact e0_2
    | 3, _ => exact e0_3)
  have k1 := h1
  have lt1 : ∀ x ∈ p1, x.block < W.heap.size := by obtain ⟨m, hm⟩ := k1; exact DataW.trod_lt m _ _ _ hm
  obtain ⟨cs1, rfl, sz1, fd1⟩ := open_agg (n := 4) Try.underlying56 (by kernel_rfl) (hval 1 56 v1 rfl rfl) h1
  obtain ⟨u1_0, x1_0, m1_0, e1_0, t1_0⟩ := fd1 0 _ 0 rfl rfl (by kernel_rfl) (by decide)
  obtain ⟨b1_0, c1_0, _⟩ := DataW.trod_bool Try.underlying4 t1_0
  obtain rfl : u1_0 = .bool b1_0 := by simpa using c1_0
  obtain ⟨u1_1, x1_1, m1_1, e1_1, t1_1⟩ := fd1 1 _ 1 rfl rfl (by kernel_rfl) (by decide)
  obtain ⟨n1_1, c1_1, _, w1_1⟩ := DataW.trod_int Try.underlying53 t1_1
  obtain rfl : u1_1 = .int .u16 n1_1 := by simpa using c1_1
  obtain ⟨u1_2, x1_2, m1_2, e1_2, t1_2⟩ := fd1 2 _ 2 rfl rfl (by kernel_rfl) (by decide)
  obtain ⟨n1_2, c1_2, _, w1_2⟩ := DataW.trod_int Try.underlying53 t1_2
  obtain rfl : u1_2 = .int .u16 n1_2 := by simpa using c1_2
  obtain ⟨u1_3, x1_3, m1_3, e1_3, t1_3⟩ := fd1 3 _ 3 rfl rfl (by kernel_rfl) (by decide)
  obtain ⟨a1_3, len1_3, cap1_3, z1_3, rfl, w1_3⟩ := isRow_field Try.underlying54 Try.underlying5 (by kernel_rfl) t1_3
  obtain rfl : cs1 = #[.bool b1_0, .int .u16 n1_1, .int .u16 n1_2, .slice a1_3 len1_3 cap1_3] := agg_eq (l := [.bool b1_0, .int .u16 n1_1, .int .u16 n1_2, .slice a1_3 len1_3 cap1_3]) sz1 (fun i hi => by
    match i, hi with
    | 0, _ => exact e1_0
    | 1, _ => exact e1_1
    | 2, _ => exact e1_2
    | 3, _ => exact e1_3)
  obtain ⟨a2, rfl, rfl, rfl, w2⟩ := open_int Try.underlying53 (hval 2 53 v2 rfl rfl) h2
  clear hA0 hval0
  refine (walk_PacketSame b0_0 n0_1 n0_2 a0_3 len0_3 cap0_3 z0_3 b1_0 n1_1 n1_2 a1_3 len1_3 cap1_3 z1_3 a2 W w0_1 w0_2 w0_3 w1_1 w1_2 w1_3 w2).mono fun e W' ⟨he, bel⟩ => ?_
  subst he
  exact ⟨_, rfl, _, _, _, [], _, [], hW', trodAll_mk1 (shut_bool Try.underlying4 _), (trodAll_cons_mk (Below.trod laidOut (by kernel_rfl) (of_decide_eq_true (by kernel_rfl)) k0 bel lt0) (trodAll_cons_mk (Below.trod laidOut (by kernel_rfl) (of_decide_eq_true (by kernel_rfl)) k1 bel lt1) (trodAll_cons_mk (shut_int Try.underlying53 w2) trodAll_mk0))), rfl, bel.frame _, fun h => by cases h⟩

theorem over : Rows.packetSameRow.holds Try.pinned (OpenSpec.ofChange Rows.packetSameSpec) :=
  OpenClaim.holds_of_wide 7 Try.f7 rfl rfl rfl rfl rfl rfl rfl ⟨rfl, rfl, rfl, rfl, rfl⟩ rfl rfl rfl rfl rfl (by kernel_rfl) Try.func7 (by kernel_rfl)
    (of_decide_eq_true (by kernel_rfl)) (by unfold Func.isWrapper; first | (rw [if_pos (by decide +kernel)]; kernel_rfl) | (rw [if_neg (by decide +kernel)]; exact ⟨rfl, rfl⟩))
    (fun os started H enc _ => lifted os started H enc)

end Go.Proofs.Ytdaknifdhhmlkaa.packetSame
namespace Go.Proofs.Ytdaknifdhhmlkaa
/-- THE STATEMENT -/
theorem proved_PacketSame : Rows.PacketSameSaid := packetSame.over
end Go.Proofs.Ytdaknifdhhmlkaa
