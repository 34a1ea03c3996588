/- The statement Rows.JournalArgsSaid of 'aerie/aerielaw17.JournalArgs': for every input the law answers true, and its arguments read afterwards as they read before. No condition. -/
import Derived.Test.YtkgeeohgfbacaaaFrame
import Derived.Test.YtkgeeohgfbacaaaLaw17a
import Derived.Test.YtkgeeohgfbacaaaAgg
namespace Go.Proofs.Ytkgeeohgfbacaaa.journalArgs
open Go.ChangeShapes Go.WideShapes Go.ChangeAt Go.RowKit
open Go.ChangeMaps (open_string shut_string)
set_option linter.unusedVariables false

set_option maxRecDepth 100000 in
theorem lifted (os : Os) (started : os.Started) (H : Type) (enc : TypeId × Value → H) :
    ReturnsInHanded {} Try.checked os 11 .any (Rows.journalArgsSpec.pre6 enc Try.prog Try.f11 Rows.journalArgsRow.domain false) (Rows.journalArgsSpec.post enc Try.prog Try.f11 false true false false) := by
  refine returnsInHanded_of_change (C := Try.checked) own started (by kernel_rfl) Try.func11
    (ChangeSpec.witness6 (enc := enc) (C := Try.checked) false ⟨#[], #[.int .i64 0, .agg #[.int .u32 0, .int .u32 0, .int .u8 0, .int .u8 0, .int .u32 0]], []⟩ 8 (by kernel_rfl) (by kernel_rfl) (by kernel_rfl) (by kernel_rfl)) ?_
  intro W base args ds gs before hval0 hW hcnd _
  have hval : ∀ (j : Nat) t v, Try.f11.params[j]? = some t → args[j]? = some v → Value.okWide Try.prog W .any base t v := hval0
  have hW' := hW
  obtain ⟨p, q, hA0, hV, rfl, hfz, hnd⟩ := hW
  have hA : DataW.TrodAll enc Try.prog W 0 (fun _ => true) true Try.f11.params.toList args.toList ds p := hA0
  rw [Try.params11] at hA hval
  obtain ⟨v0, vs0, d0, ds0, p0, q0, hargs, rfl, rfl, h0, r0⟩ := trodAll_cons hA
  obtain ⟨v1, vs1, d1, ds1, p1, q1, rfl, rfl, rfl, h1, r1⟩ := trodAll_cons r0
  obtain ⟨rfl, rfl, rfl⟩ := trodAll_nil r1
  obtain rfl : args = #[v0, v1] := by cases args; simp_all
  obtain ⟨rfl, rfl⟩ := trodVars_none hV
  obtain ⟨a0, rfl, rfl, rfl, w0⟩ := open_int Try.underlying3 (hval 0 3 v0 rfl rfl) h0
  have k1 := h1
  have lt1 : ∀ x ∈ p1, x.block < W.heap.size := by obtain ⟨m, hm⟩ := k1; exact DataW.trod_lt m _ _ _ hm
  obtain ⟨cs1, rfl, sz1, fd1⟩ := open_agg (n := 5) Try.underlying142 (by kernel_rfl) (hval 1 142 v1 rfl rfl) h1
  obtain ⟨u1_0, x1_0, m1_0, e1_0, t1_0⟩ := fd1 0 _ 0 rfl rfl (by kernel_rfl) (by decide)
  obtain ⟨n1_0, c1_0, _, w1_0⟩ := DataW.trod_int Try.underlying53 t1_0
  obtain rfl : u1_0 = .int .u32 n1_0 := by simpa using c1_0
  obtain ⟨u1_1, x1_1, m1_1, e1_1, t1_1⟩ := fd1 1 _ 1 rfl rfl (by kernel_rfl) (by decide)
  obtain ⟨n1_1, c1_1, _, w1_1⟩ := DataW.trod_int Try.underlying53 t1_1
  obtain rfl : u1_1 = .int .u32 n1_1 := by simpa using c1_1
  obtain ⟨u1_2, x1_2, m1_2, e1_2, t1_2⟩ := fd1 2 _ 2 rfl rfl (by kernel_rfl) (by decide)
  obtain ⟨n1_2, c1_2, _, w1_2⟩ := DataW.trod_int Try.underlying5 t1_2
  obtain rfl : u1_2 = .int .u8 n1_2 := by simpa using c1_2
  obtain ⟨u1_3, x1_3, m1_3, e1_3, t1_3⟩ := fd1 3 _ 3 rfl rfl (by kernel_rfl) (by decide)
  obtain ⟨n1_3, c1_3, _, w1_3⟩ := DataW.trod_int Try.underlying5 t1_3
  obtain rfl : u1_3 = .int .u8 n1_3 := by simpa using c1_3
  obtain ⟨u1_4, x1_4, m1_4, e1_4, t1_4⟩ := fd1 4 _ 4 rfl rfl (by kernel_rfl) (by decide)
  obtain ⟨n1_4, c1_4, _, w1_4⟩ := DataW.trod_int Try.underlying53 t1_4
  obtain rfl : u1_4 = .int .u32 n1_4 := by simpa using c1_4
  obtain rfl : cs1 = #[.int .u32 n1_0, .int .u32 n1_1, .int .u8 n1_2, .int .u8 n1_3, .int .u32 n1_4] := agg_eq (l := [.int .u32 n1_0, .int .u32 n1_1, .int .u8 n1_2, .int .u8 n1_3, .int .u32 n1_4]) sz1 (fun i hi => by
    match i, hi with
    | 0, _ => exact e1_0
    | 1, _ => exact e1_1
    | 2, _ => exact e1_2
    | 3, _ => exact e1_3
    | 4, _ => exact e1_4)
  clear hA0 hval0
  refine (walk_JournalArgs a0 n1_0 n1_1 n1_2 n1_3 n1_4 W w0 w1_0 w1_1 w1_2 w1_3 w1_4).mono fun e W' ⟨he, bel⟩ => ?_
  subst he
  exact ⟨_, rfl, _, _, _, [], _, [], hW', trodAll_mk1 (shut_bool Try.underlying4 _), (trodAll_cons_mk (shut_int Try.underlying3 w0) (trodAll_cons_mk (Below.trod laidOut (by kernel_rfl) (of_decide_eq_true (by kernel_rfl)) k1 bel lt1) trodAll_mk0)), rfl, bel.frame _, fun h => by cases h⟩

theorem over : Rows.journalArgsRow.holds Try.pinned (OpenSpec.ofChange Rows.journalArgsSpec) :=
  OpenClaim.holds_of_wide 11 Try.f11 rfl rfl rfl rfl rfl rfl rfl ⟨rfl, rfl, rfl, rfl, rfl⟩ rfl rfl rfl rfl rfl (by kernel_rfl) Try.func11 (by kernel_rfl)
    (of_decide_eq_true (by kernel_rfl)) (by unfold Func.isWrapper; first | (rw [if_pos (by decide +kernel)]; kernel_rfl) | (rw [if_neg (by decide +kernel)]; exact ⟨rfl, rfl⟩))
    (fun os started H enc _ => lifted os started H enc)

end Go.Proofs.Ytkgeeohgfbacaaa.journalArgs
namespace Go.Proofs.Ytkgeeohgfbacaaa
/-- THE STATEMENT -/
theorem proved_JournalArgs : Rows.JournalArgsSaid := journalArgs.over
end Go.Proofs.Ytkgeeohgfbacaaa
