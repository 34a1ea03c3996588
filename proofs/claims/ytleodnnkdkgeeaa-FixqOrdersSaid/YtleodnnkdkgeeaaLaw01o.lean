/- FixqOrders -/
import Derived.Test.YtleodnnkdkgeeaaLaw01
import Derived.Test.YtleodnnkdkgeeaaMix
import Derived.Handy
import Derived.BigQuiet
namespace Go.Proofs.Ytleodnnkdkgeeaa
open Go.RowKit
set_option linter.unusedVariables false


set_option maxRecDepth 100000 in
set_option maxHeartbeats 4000000 in
theorem walk_FixqOrders (a b c k q s : Int) (w : World) (w0 : (Lit.int .i32 a).wf = true) (w1 : (Lit.int .i32 b).wf = true) (w2 : (Lit.int .i32 c).wf = true) (w3 : (Lit.int .u8 k).wf = true) (w4 : (Lit.int .i64 q).wf = true) (w5 : (Lit.int .i64 s).wf = true) :
    Calls Try.prog 9 #[.int .i32 a, .int .i32 b, .int .i32 c, .int .u8 k, .int .i64 q, .int .i64 s] w fun e w' => e = .returned (.bool true) ∧ Below w.heap.size w w' := by
  obtain ⟨a0, a1⟩ := bounds_i32 w0
  obtain ⟨b0, b1⟩ := bounds_i32 w1
  obtain ⟨c0, c1⟩ := bounds_i32 w2
  obtain ⟨k0, k1⟩ := bounds_u8 w3
  clear w0 w1 w2 w3 w4 w5
  rcases (by omega : a < b ∨ b < a ∨ a = b) with h | h | h
  · have t1 : Fx.sat (a + c) ≤ Fx.sat (b + c) := Fx.sat_mono (by omega)
    have t2 : Fx.sat (c - b) ≤ Fx.sat (c - a) := Fx.sat_mono (by omega)
    have t3 : Fx.sat (a * k / Fx.pw q) ≤ Fx.sat (b * k / Fx.pw q) := Fx.mulq_mono (by omega) (by omega)
    have t4 : Fx.shift a s ≤ Fx.shift b s := Fx.shift_mono (by omega)
    have t5 : Fx.clamp a (-k) k ≤ Fx.clamp b (-k) k := Fx.clamp_mono (by omega) (by omega)
    have t6 : Fx.sat (-b) ≤ Fx.sat (-a) := Fx.sat_mono (by omega)
    have t7 : Fx.quo a (k + 1) q ≤ Fx.quo b (k + 1) q := Fx.quo_mono (by omega) (by omega)
    go_enter Try.func9, Try.ntmps9
    go_wp2_with (first | (go_at_call 15; refine (awake01 _).mono ?_; rintro e w1 ⟨rfl, hb⟩) | (go_at_call 23; (with_reducible refine (Mul_any _ _ _ _ ?_ ?_ ?_ ?_).mono ?_); (· omega); (· omega); (· omega); (· omega); rintro e w' ⟨rfl, rfl⟩) | (go_at_call 25; (with_reducible refine (Div_any _ _ _ _ ?_ ?_ ?_ ?_).mono ?_); (· omega); (· omega); (· omega); (· omega); rintro e w' ⟨rfl, rfl⟩) | (go_at_call 26; (with_reducible refine (Shift_any _ _ _ ?_ ?_).mono ?_); (· omega); (· omega); rintro e w' ⟨rfl, rfl⟩) | (go_at_call 19; (with_reducible refine (Sub_any _ _ _ ?_ ?_ ?_ ?_).mono ?_); (· omega); (· omega); (· omega); (· omega); rintro e w' ⟨rfl, rfl⟩) | (go_at_call 20; (with_reducible refine (Neg_any _ _ ?_ ?_).mono ?_); (· omega); (· omega); rintro e w' ⟨rfl, rfl⟩) | (go_at_call 27; (with_reducible refine (Clamp_any _ _ _ _).mono ?_); rintro e w' ⟨rfl, rfl⟩) | (go_at_call 18; (with_reducible refine (Add2_at a c _ _ ?_ ?_ ?_ ?_).mono ?_); (· go_simp); (· go_simp); (· omega); (· omega); rintro e w' ⟨rfl, rfl⟩) | (go_at_call 18; (with_reducible refine (Add2_at b c _ _ ?_ ?_ ?_ ?_).mono ?_); (· go_simp); (· go_simp); (· omega); (· omega); rintro e w' ⟨rfl, rfl⟩))
    go_ret
    have hsz := hb.size
    exact ⟨rfl, by go_grown⟩

  · have t1 : Fx.sat (b + c) ≤ Fx.sat (a + c) := Fx.sat_mono (by omega)
    have t2 : Fx.sat (c - a) ≤ Fx.sat (c - b) := Fx.sat_mono (by omega)
    have t3 : Fx.sat (b * k / Fx.pw q) ≤ Fx.sat (a * k / Fx.pw q) := Fx.mulq_mono (by omega) (by omega)
    have t4 : Fx.shift b s ≤ Fx.shift a s := Fx.shift_mono (by omega)
    have t5 : Fx.clamp b (-k) k ≤ Fx.clamp a (-k) k := Fx.clamp_mono (by omega) (by omega)
    have t6 : Fx.sat (-a) ≤ Fx.sat (-b) := Fx.sat_mono (by omega)
    have t7 : Fx.quo b (k + 1) q ≤ Fx.quo a (k + 1) q := Fx.quo_mono (by omega) (by omega)
    go_enter Try.func9, Try.ntmps9
    go_wp2_with (first | (go_at_call 15; refine (awake01 _).mono ?_; rintro e w1 ⟨rfl, hb⟩) | (go_at_call 23; (with_reducible refine (Mul_any _ _ _ _ ?_ ?_ ?_ ?_).mono ?_); (· omega); (· omega); (· omega); (· omega); rintro e w' ⟨rfl, rfl⟩) | (go_at_call 25; (with_reducible refine (Div_any _ _ _ _ ?_ ?_ ?_ ?_).mono ?_); (· omega); (· omega); (· omega); (· omega); rintro e w' ⟨rfl, rfl⟩) | (go_at_call 26; (with_reducible refine (Shift_any _ _ _ ?_ ?_).mono ?_); (· omega); (· omega); rintro e w' ⟨rfl, rfl⟩) | (go_at_call 19; (with_reducible refine (Sub_any _ _ _ ?_ ?_ ?_ ?_).mono ?_); (· omega); (· omega); (· omega); (· omega); rintro e w' ⟨rfl, rfl⟩) | (go_at_call 20; (with_reducible refine (Neg_any _ _ ?_ ?_).mono ?_); (· omega); (· omega); rintro e w' ⟨rfl, rfl⟩) | (go_at_call 27; (with_reducible refine (Clamp_any _ _ _ _).mono ?_); rintro e w' ⟨rfl, rfl⟩) | (go_at_call 18; (with_reducible refine (Add2_at b c _ _ ?_ ?_ ?_ ?_).mono ?_); (· go_simp); (· go_simp); (· omega); (· omega); rintro e w' ⟨rfl, rfl⟩) | (go_at_call 18; (with_reducible refine (Add2_at a c _ _ ?_ ?_ ?_ ?_).mono ?_); (· go_simp); (· go_simp); (· omega); (· omega); rintro e w' ⟨rfl, rfl⟩))
    go_ret
    have hsz := hb.size
    exact ⟨rfl, by go_grown⟩

  · subst h
    have t1 : Fx.sat (a + c) ≤ Fx.sat (a + c) := Fx.sat_mono (by omega)
    have t2 : Fx.sat (c - a) ≤ Fx.sat (c - a) := Fx.sat_mono (by omega)
    have t3 : Fx.sat (a * k / Fx.pw q) ≤ Fx.sat (a * k / Fx.pw q) := Fx.mulq_mono (by omega) (by omega)
    have t4 : Fx.shift a s ≤ Fx.shift a s := Fx.shift_mono (by omega)
    have t5 : Fx.clamp a (-k) k ≤ Fx.clamp a (-k) k := Fx.clamp_mono (by omega) (by omega)
    have t6 : Fx.sat (-a) ≤ Fx.sat (-a) := Fx.sat_mono (by omega)
    have t7 : Fx.quo a (k + 1) q ≤ Fx.quo a (k + 1) q := Fx.quo_mono (by omega) (by omega)
    go_enter Try.func9, Try.ntmps9
    go_wp2_with (first | (go_at_call 15; refine (awake01 _).mono ?_; rintro e w1 ⟨rfl, hb⟩) | (go_at_call 23; (with_reducible refine (Mul_any _ _ _ _ ?_ ?_ ?_ ?_).mono ?_); (· omega); (· omega); (· omega); (· omega); rintro e w' ⟨rfl, rfl⟩) | (go_at_call 25; (with_reducible refine (Div_any _ _ _ _ ?_ ?_ ?_ ?_).mono ?_); (· omega); (· omega); (· omega); (· omega); rintro e w' ⟨rfl, rfl⟩) | (go_at_call 26; (with_reducible refine (Shift_any _ _ _ ?_ ?_).mono ?_); (· omega); (· omega); rintro e w' ⟨rfl, rfl⟩) | (go_at_call 19; (with_reducible refine (Sub_any _ _ _ ?_ ?_ ?_ ?_).mono ?_); (· omega); (· omega); (· omega); (· omega); rintro e w' ⟨rfl, rfl⟩) | (go_at_call 20; (with_reducible refine (Neg_any _ _ ?_ ?_).mono ?_); (· omega); (· omega); rintro e w' ⟨rfl, rfl⟩) | (go_at_call 27; (with_reducible refine (Clamp_any _ _ _ _).mono ?_); rintro e w' ⟨rfl, rfl⟩) | (go_at_call 18; (with_reducible refine (Add2_at a c _ _ ?_ ?_ ?_ ?_).mono ?_); (· go_simp); (· go_simp); (· omega); (· omega); rintro e w' ⟨rfl, rfl⟩) | (go_at_call 18; (with_reducible refine (Add2_at a c _ _ ?_ ?_ ?_ ?_).mono ?_); (· go_simp); (· go_simp); (· omega); (· omega); rintro e w' ⟨rfl, rfl⟩))
    go_ret
    have hsz := hb.size
    exact ⟨rfl, by go_grown⟩

end Go.Proofs.Ytleodnnkdkgeeaa
