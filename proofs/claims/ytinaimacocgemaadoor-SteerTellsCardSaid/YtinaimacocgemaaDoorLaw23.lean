/- Layer 23's statements: the document's example; what the dipole is. -/
import Derived.Test.YtinaimacocgemaaDoorSts
namespace Go.Proofs.YtinaimacocgemaaDoor
open Go.RowKit Go.Own
set_option linter.unusedVariables false
set_option linter.unusedSimpArgs false
theorem vec_of {x y z : Int} (hx : (Lit.int .i32 x).wf = true) (hy : (Lit.int .i32 y).wf = true) (hz : (Lit.int .i32 z).wf = true) : ∃ a : Nat → Int, In3 a ∧ x = a 0 ∧ y = a 1 ∧ z = a 2 :=
  ⟨fun k => if k = 0 then x else if k = 1 then y else z, fun k hk => by
    have h1 := bounds_i32 hx
    have h2 := bounds_i32 hy
    have h3 := bounds_i32 hz
    dsimp only
    split
    · exact h1
    · split
      · exact h2
      · exact h3, rfl, rfl, rfl⟩
theorem Bdot_ex (w : World) : Calls Tryd.prog 18 #[.agg #[.int .i32 10, .int .i32 0, .int .i32 0], .agg #[.int .i32 0, .int .i32 0, .int .i32 0], .bool false, .int .i32 1, .int .i64 0, .int .i32 100] w fun e w' => e = .returned (.agg #[.int .i32 (-10), .int .i32 0, .int .i32 0]) ∧ Below w.heap.size w w' := by
  have h := Bdot_any (fun k => if k = 0 then 10 else 0) (fun _ => 0) 1 0 100 w (fun k _ => by dsimp only; split <;> decide) (fun k _ => by dsimp only; decide) (by decide) (by decide) (by decide) (by decide)
  have e0 : bdF (fun k => if k = 0 then 10 else 0) (fun _ => 0) 1 0 100 0 = -10 := by decide
  have e1 : bdF (fun k => if k = 0 then 10 else 0) (fun _ => 0) 1 0 100 1 = 0 := by decide
  have e2 : bdF (fun k => if k = 0 then 10 else 0) (fun _ => 0) 1 0 100 2 = 0 := by decide
  rw [e0, e1, e2] at h
  exact h
theorem Axis_ex (w : World) : Calls Tryd.prog 19 #[.int .i64 1] w fun e w' => e = .returned (.agg #[.int .i32 0, .int .i32 1000, .int .i32 0]) ∧ Below w.heap.size w w' := Axis_any 1 w
set_option maxHeartbeats 1000000 in
theorem awake23 (w : World) : Calls Tryd.prog 6 #[] w fun e w' => e = .returned (.bool true) ∧ Below w.heap.size w w' := by
  have hz := zero_vcS
  go_enter Tryd.func6, Tryd.ntmps6
  go_wp2_with (first | (go_at_call 18; refine (Bdot_ex _).mono ?_; rintro e w1 ⟨rfl, hb1⟩) | (go_at_call 19; refine (Axis_ex _).mono ?_; rintro e w2 ⟨rfl, hb2⟩))
  go_ret
  exact ⟨rfl, hb1.trans (hb2.mono hb1.size)⟩
theorem clamp_bd (v M : Int) (h : 0 ≤ M) : -M ≤ Fx.clamp v (-M) M ∧ Fx.clamp v (-M) M ≤ M := by
  unfold Fx.clamp; split <;> (try split) <;> omega
theorem pw_low {q : Int} (h : q ≤ 0) : Fx.pw q = 1 := by
  unfold Fx.pw Fx.fb
  rw [show max 0 (min q 31) = 0 by omega]
  rfl
/-- The dipole stands against the change, within its bound. -/
theorem damp_ok (a l : Nat → Int) (g q m : Int) (k : Nat) : (bdF a l g q m k ≤ max m 0 ∧ -(max m 0) ≤ bdF a l g q m k) ∧ (0 ≤ g → q ≤ 0 → 0 < a k - l k → bdF a l g q m k ≤ 0) ∧ (0 ≤ g → q ≤ 0 → a k - l k < -1 → 0 ≤ bdF a l g q m k) := by
  have hb := clamp_bd (Fx.sat (-(Fx.sat (Fx.sat (a k - l k) * g / Fx.pw q)))) (max m 0) (by omega)
  refine ⟨⟨hb.2, hb.1⟩, fun hg hq hd => ?_, fun hg hq hd => ?_⟩
  · show Fx.clamp (Fx.sat (-(Fx.sat (Fx.sat (a k - l k) * g / Fx.pw q)))) (-(max m 0)) (max m 0) ≤ 0
    rw [pw_low hq, Int.ediv_one]
    have h1 : 0 ≤ Fx.sat (a k - l k) := by unfold Fx.sat; split <;> (try split) <;> omega
    have h2 := Int.mul_nonneg h1 hg
    have h3 : 0 ≤ Fx.sat (Fx.sat (a k - l k) * g) := by
      generalize Fx.sat (a k - l k) * g = y at h2
      unfold Fx.sat; split <;> (try split) <;> omega
    generalize Fx.sat (Fx.sat (a k - l k) * g) = y at h3
    have h4 : Fx.sat (-y) ≤ 0 := by unfold Fx.sat; split <;> (try split) <;> omega
    generalize Fx.sat (-y) = z at h4
    unfold Fx.clamp; split <;> (try split) <;> omega
  · show 0 ≤ Fx.clamp (Fx.sat (-(Fx.sat (Fx.sat (a k - l k) * g / Fx.pw q)))) (-(max m 0)) (max m 0)
    rw [pw_low hq, Int.ediv_one]
    have h1 : Fx.sat (a k - l k) ≤ 0 := by unfold Fx.sat; split <;> (try split) <;> omega
    have h2 := Int.mul_nonneg (show 0 ≤ -Fx.sat (a k - l k) by omega) hg
    rw [Int.neg_mul] at h2
    have h3 : Fx.sat (Fx.sat (a k - l k) * g) ≤ 0 := by
      generalize Fx.sat (a k - l k) * g = y at h2
      unfold Fx.sat; split <;> (try split) <;> omega
    generalize Fx.sat (Fx.sat (a k - l k) * g) = y at h3
    have h4 : 0 ≤ Fx.sat (-y) := by unfold Fx.sat; split <;> (try split) <;> omega
    generalize Fx.sat (-y) = z at h4
    unfold Fx.clamp; split <;> (try split) <;> omega
end Go.Proofs.YtinaimacocgemaaDoor
