/- Contracts of package vec. -/
import Derived.Test.YtinaimacocgemaaDoorFix
import Derived.Test.YtinaimacocgemaaDoorOwn
import Derived.Deep.QuietTactic
import Derived.BigQuiet
import Derived.Handy
import Derived.WalkLawsBesides
namespace Go.Proofs.YtinaimacocgemaaDoor
open Go.RowKit
set_option linter.unusedVariables false

theorem Below.drawsN {B : Nat} {a w : World} (h : Below B a w) (n : Nat) : Below B a (w.drewN n) := ⟨h.os, h.tape, h.output, h.size, h.block⟩


theorem quiet_eq {P : Program} {f : FuncId} {args : Array Value} {w : World} {n : Nat} {v : Value}
    (h : Calls P f args (w.drewN n) fun e w' => e = .returned v ∧ w.drewN n = w') : Calls P f args (w.drewN n) fun e w'' => e = .returned v ∧ ∃ m, w'' = w.drewN m :=
  h.mono fun _ _ ⟨he, hm⟩ => ⟨he, n, hm.symm⟩

def pick (i : Int) (x y z : Int) : Int := if i = 0 then x else if i = 1 then y else z

/-- The three cells of a block. -/
structure Three (w : World) (k : IntKind) (b : Nat) (x y z : Int) : Prop where
  c0 : w.cell? ⟨b, 0, none⟩ = some (.int k x)
  c1 : w.cell? ⟨b, 1, none⟩ = some (.int k y)
  c2 : w.cell? ⟨b, 2, none⟩ = some (.int k z)


set_option maxHeartbeats 400000 in
theorem SubC (i : Int) (b1 b2 : Nat) (ax ay az bx by_ bz : Int) (w : World) (hi : i = 0 ∨ i = 1 ∨ i = 2) (h1 : Three w .i32 b1 ax ay az) (h2 : Three w .i32 b2 bx by_ bz)
    (axlo : -2147483648 ≤ ax) (axhi : ax ≤ 2147483647) (aylo : -2147483648 ≤ ay) (ayhi : ay ≤ 2147483647) (azlo : -2147483648 ≤ az) (azhi : az ≤ 2147483647) (bxlo : -2147483648 ≤ bx) (bxhi : bx ≤ 2147483647) (by_lo : -2147483648 ≤ by_) (by_hi : by_ ≤ 2147483647) (bzlo : -2147483648 ≤ bz) (bzhi : bz ≤ 2147483647) :
    Calls Tryd.prog 50 #[.int .i64 i, .pointer (some ⟨b1, 0, none⟩), .pointer (some ⟨b2, 0, none⟩)] w fun e w' => e = .returned (.int .i32 (Fx.sat (pick i ax ay az - pick i bx by_ bz))) ∧ ∃ n, w' = w.drewN n := by
  obtain ⟨p0, p1, p2⟩ := h1
  obtain ⟨q0, q1, q2⟩ := h2
  rcases hi with rfl | rfl | rfl
  all_goals
    simp only [pick]
    go_enter Tryd.func50, Tryd.ntmps50
    go_wp2
    go_quiet ((go_at_call 51; exact quiet_eq (Sub_any _ _ _ (by omega) (by omega) (by omega) (by omega))))
    go_wp2
    go_ret
    exact ⟨rfl, _, rfl⟩

set_option maxHeartbeats 400000 in
theorem vSub_any (ax ay az bx by_ bz : Int) (w : World) (axlo : -2147483648 ≤ ax) (axhi : ax ≤ 2147483647) (aylo : -2147483648 ≤ ay) (ayhi : ay ≤ 2147483647) (azlo : -2147483648 ≤ az) (azhi : az ≤ 2147483647) (bxlo : -2147483648 ≤ bx) (bxhi : bx ≤ 2147483647) (by_lo : -2147483648 ≤ by_) (by_hi : by_ ≤ 2147483647) (bzlo : -2147483648 ≤ bz) (bzhi : bz ≤ 2147483647) :
    Calls Tryd.prog 32 #[.agg #[.int .i32 ax, .int .i32 ay, .int .i32 az], .agg #[.int .i32 bx, .int .i32 by_, .int .i32 bz]] w fun e w' => e = .returned (.agg #[.int .i32 (Fx.sat (ax - bx)), .int .i32 (Fx.sat (ay - by_)), .int .i32 (Fx.sat (az - bz))]) ∧ Below w.heap.size w w' := by
  go_enter Tryd.func32, Tryd.ntmps32
  go_wp2_with (first | (go_at_call 50; refine (SubC _ _ _ ax ay az bx by_ bz _ ?_ ?_ ?_ axlo axhi aylo ayhi azlo azhi bxlo bxhi by_lo by_hi bzlo bzhi).mono ?_; (· decide); (· exact ⟨by go_simp, by go_simp, by go_simp⟩); (· exact ⟨by go_simp, by go_simp, by go_simp⟩); rintro e w' ⟨rfl, n, rfl⟩) | go_in)
  exact bodyPost_ret (v := .agg #[.int .i32 (Fx.sat (ax - bx)), .int .i32 (Fx.sat (ay - by_)), .int .i32 (Fx.sat (az - bz))]) (by simp [results, Tryd.results32, go_sem, pick]) rfl ⟨rfl, by repeat' (first | (with_reducible exact Below.refl _ _) | (with_reducible assumption) | (with_reducible refine Below.setCell ?_ ?_ _) | (with_reducible refine Below.alloc ?_ ?_ _) | (with_reducible refine Below.drew ?_) | (with_reducible refine Below.drawsN ?_ _) | go_size)⟩


set_option maxHeartbeats 400000 in
theorem NegC (i : Int) (b1 : Nat) (ax ay az : Int) (w : World) (hi : i = 0 ∨ i = 1 ∨ i = 2) (h1 : Three w .i32 b1 ax ay az) (axlo : -2147483648 ≤ ax) (axhi : ax ≤ 2147483647) (aylo : -2147483648 ≤ ay) (ayhi : ay ≤ 2147483647) (azlo : -2147483648 ≤ az) (azhi : az ≤ 2147483647) :
    Calls Tryd.prog 54 #[.int .i64 i, .pointer (some ⟨b1, 0, none⟩)] w fun e w' => e = .returned (.int .i32 (Fx.sat (-pick i ax ay az))) ∧ w = w' := by
  obtain ⟨p0, p1, p2⟩ := h1
  rcases hi with rfl | rfl | rfl
  all_goals
    simp only [pick]
    go_enter Tryd.func54, Tryd.ntmps54
    go_wp2_with (go_at_call 55; (refine (Neg_any _ _ (by omega) (by omega)).mono ?_); rintro e w' ⟨rfl, rfl⟩)
    go_ret
    exact ⟨rfl, rfl⟩

set_option maxHeartbeats 400000 in
theorem vNeg_any (ax ay az : Int) (w : World) (axlo : -2147483648 ≤ ax) (axhi : ax ≤ 2147483647) (aylo : -2147483648 ≤ ay) (ayhi : ay ≤ 2147483647) (azlo : -2147483648 ≤ az) (azhi : az ≤ 2147483647) :
    Calls Tryd.prog 34 #[.agg #[.int .i32 ax, .int .i32 ay, .int .i32 az]] w fun e w' => e = .returned (.agg #[.int .i32 (Fx.sat (-ax)), .int .i32 (Fx.sat (-ay)), .int .i32 (Fx.sat (-az))]) ∧ Below w.heap.size w w' := by
  go_enter Tryd.func34, Tryd.ntmps34
  go_wp2_with (first | (go_at_call 54; refine (NegC _ _ ax ay az _ ?_ ?_ axlo axhi aylo ayhi azlo azhi).mono ?_; (· decide); (· exact ⟨by go_simp, by go_simp, by go_simp⟩); rintro e w' ⟨rfl, rfl⟩) | go_in)
  exact bodyPost_ret (v := .agg #[.int .i32 (Fx.sat (-ax)), .int .i32 (Fx.sat (-ay)), .int .i32 (Fx.sat (-az))]) (by simp [results, Tryd.results34, go_sem, pick]) rfl ⟨rfl, by repeat' (first | (with_reducible exact Below.refl _ _) | (with_reducible assumption) | (with_reducible refine Below.setCell ?_ ?_ _) | (with_reducible refine Below.alloc ?_ ?_ _) | (with_reducible refine Below.drew ?_) | (with_reducible refine Below.drawsN ?_ _) | go_size)⟩

set_option maxHeartbeats 400000 in
theorem ScaleC (i : Int) (b1 b2 b3 : Nat) (ax ay az k q : Int) (w : World) (hi : i = 0 ∨ i = 1 ∨ i = 2) (h1 : Three w .i32 b1 ax ay az) (h2 : w.cell? ⟨b2, 0, none⟩ = some (.int .i32 k)) (h3 : w.cell? ⟨b3, 0, none⟩ = some (.int .i64 q))
    (axlo : -2147483648 ≤ ax) (axhi : ax ≤ 2147483647) (aylo : -2147483648 ≤ ay) (ayhi : ay ≤ 2147483647) (azlo : -2147483648 ≤ az) (azhi : az ≤ 2147483647) (klo : -2147483648 ≤ k) (khi : k ≤ 2147483647) :
    Calls Tryd.prog 39 #[.int .i64 i, .pointer (some ⟨b1, 0, none⟩), .pointer (some ⟨b2, 0, none⟩), .pointer (some ⟨b3, 0, none⟩)] w fun e w' => e = .returned (.int .i32 (Fx.sat (pick i ax ay az * k / Fx.pw q))) ∧ ∃ n, w' = w.drewN n := by
  obtain ⟨p0, p1, p2⟩ := h1
  rcases hi with rfl | rfl | rfl
  all_goals
    simp only [pick]
    go_enter Tryd.func39, Tryd.ntmps39
    go_wp2
    go_quiet ((go_at_call 40; exact quiet_eq (Mul_any _ _ _ _ (by omega) (by omega) (by omega) (by omega))))
    go_wp2
    go_ret
    exact ⟨rfl, _, rfl⟩

set_option maxHeartbeats 400000 in
theorem vScale_any (ax ay az k q : Int) (w : World) (axlo : -2147483648 ≤ ax) (axhi : ax ≤ 2147483647) (aylo : -2147483648 ≤ ay) (ayhi : ay ≤ 2147483647) (azlo : -2147483648 ≤ az) (azhi : az ≤ 2147483647) (klo : -2147483648 ≤ k) (khi : k ≤ 2147483647) :
    Calls Tryd.prog 26 #[.agg #[.int .i32 ax, .int .i32 ay, .int .i32 az], .int .i32 k, .int .i64 q] w fun e w' => e = .returned (.agg #[.int .i32 (Fx.sat (ax * k / Fx.pw q)), .int .i32 (Fx.sat (ay * k / Fx.pw q)), .int .i32 (Fx.sat (az * k / Fx.pw q))]) ∧ Below w.heap.size w w' := by
  go_enter Tryd.func26, Tryd.ntmps26
  go_wp2_with (first | (go_at_call 39; refine (ScaleC _ _ _ _ ax ay az k q _ ?_ ?_ ?_ ?_ axlo axhi aylo ayhi azlo azhi klo khi).mono ?_; (· decide); (· exact ⟨by go_simp, by go_simp, by go_simp⟩); (· go_simp); (· go_simp); rintro e w' ⟨rfl, n, rfl⟩) | go_in)
  exact bodyPost_ret (v := .agg #[.int .i32 (Fx.sat (ax * k / Fx.pw q)), .int .i32 (Fx.sat (ay * k / Fx.pw q)), .int .i32 (Fx.sat (az * k / Fx.pw q))]) (by simp [results, Tryd.results26, go_sem, pick]) rfl ⟨rfl, by repeat' (first | (with_reducible exact Below.refl _ _) | (with_reducible assumption) | (with_reducible refine Below.setCell ?_ ?_ _) | (with_reducible refine Below.alloc ?_ ?_ _) | (with_reducible refine Below.drew ?_) | (with_reducible refine Below.drawsN ?_ _) | go_size)⟩

set_option maxHeartbeats 400000 in
theorem NormC (i : Int) (b1 : Nat) (ax ay az : Int) (w : World) (hi : i = 0 ∨ i = 1 ∨ i = 2) (h1 : Three w .i32 b1 ax ay az) (axlo : -2147483648 ≤ ax) (axhi : ax ≤ 2147483647) (aylo : -2147483648 ≤ ay) (ayhi : ay ≤ 2147483647) (azlo : -2147483648 ≤ az) (azhi : az ≤ 2147483647) :
    Calls Tryd.prog 47 #[.int .i64 i, .pointer (some ⟨b1, 0, none⟩)] w fun e w' => e = .returned (.int .i32 (max (pick i ax ay az) (Fx.sat (-pick i ax ay az)))) ∧ w = w' := by
  obtain ⟨p0, p1, p2⟩ := h1
  rcases hi with rfl | rfl | rfl
  all_goals
    simp only [pick]
    go_enter Tryd.func47, Tryd.ntmps47
    go_wp2_with (go_at_call 48; (refine (Abs_any _ _ (by omega) (by omega)).mono ?_); rintro e w' ⟨rfl, rfl⟩)
    go_ret
    exact ⟨rfl, rfl⟩

/-- the magnitude -/
def mag (a : Int) : Int := max a (Fx.sat (-a))
theorem mag_pick (i x y z : Int) : max (pick i x y z) (Fx.sat (-pick i x y z)) = pick i (mag x) (mag y) (mag z) := by
  unfold pick mag; split <;> (try split) <;> rfl

set_option maxHeartbeats 1000000 in
theorem vNorm_any (ax ay az : Int) (w : World) (axlo : -2147483648 ≤ ax) (axhi : ax ≤ 2147483647) (aylo : -2147483648 ≤ ay) (ayhi : ay ≤ 2147483647) (azlo : -2147483648 ≤ az) (azhi : az ≤ 2147483647) :
    Calls Tryd.prog 30 #[.agg #[.int .i32 ax, .int .i32 ay, .int .i32 az]] w fun e w' => e = .returned (.int .i32 (max (mag ax) (max (mag ay) (mag az)))) ∧ Below w.heap.size w w' := by
  go_enter Tryd.func30, Tryd.ntmps30
  go_wp2_with (first | (go_at_call 47; refine (NormC _ _ ax ay az _ ?_ ?_ axlo axhi aylo ayhi azlo azhi).mono ?_; (· decide); (· exact ⟨by go_simp, by go_simp, by go_simp⟩); rintro e w' ⟨rfl, rfl⟩; rw [mag_pick]) | go_in)
  all_goals
    go_ret
    exact ⟨ret_int (by simp only [pick] at *; simp at *; omega), by repeat' (first | (with_reducible exact Below.refl _ _) | (with_reducible assumption) | (with_reducible refine Below.setCell ?_ ?_ _) | (with_reducible refine Below.alloc ?_ ?_ _) | (with_reducible refine Below.drew ?_) | (with_reducible refine Below.drawsN ?_ _) | go_size)⟩

set_option maxHeartbeats 400000 in
theorem ClampC (i : Int) (b1 b2 : Nat) (ax ay az m : Int) (w : World) (hi : i = 0 ∨ i = 1 ∨ i = 2) (h1 : Three w .i32 b1 ax ay az) (h2 : w.cell? ⟨b2, 0, none⟩ = some (.int .i32 m)) (hm : 0 ≤ m) (hm' : m ≤ 2147483647) :
    Calls Tryd.prog 52 #[.int .i64 i, .pointer (some ⟨b1, 0, none⟩), .pointer (some ⟨b2, 0, none⟩)] w fun e w' => e = .returned (.int .i32 (Fx.clamp (pick i ax ay az) (-m) m)) ∧ ∃ n, w' = w.drewN n := by
  obtain ⟨p0, p1, p2⟩ := h1
  have hn : IntKind.i32.wrap (-m) = -m := IntWalk.i32_in _ (by omega)
  rcases hi with rfl | rfl | rfl
  all_goals
    simp only [pick]
    go_enter Tryd.func52, Tryd.ntmps52
    go_wp2
    go_quiet ((go_at_call 53; exact quiet_eq (Clamp_any _ _ _ _)))
    go_wp2
    go_ret
    exact ⟨rfl, _, rfl⟩

set_option maxHeartbeats 400000 in
theorem vClamp_any (ax ay az m : Int) (w : World) (hm : -2147483648 ≤ m) (hm' : m ≤ 2147483647) :
    Calls Tryd.prog 33 #[.agg #[.int .i32 ax, .int .i32 ay, .int .i32 az], .int .i32 m] w fun e w' => e = .returned (.agg #[.int .i32 (Fx.clamp ax (-(max m 0)) (max m 0)), .int .i32 (Fx.clamp ay (-(max m 0)) (max m 0)), .int .i32 (Fx.clamp az (-(max m 0)) (max m 0))]) ∧ Below w.heap.size w w' := by
  rcases (by omega : m < 0 ∨ 0 ≤ m) with h | h
  · rw [show max m 0 = 0 from by omega]
    go_enter Tryd.func33, Tryd.ntmps33
    go_wp2_with (first | (go_at_call 52; refine (ClampC _ _ _ ax ay az 0 _ ?_ ?_ ?_ ?_ ?_).mono ?_; (· decide); (· exact ⟨by go_simp, by go_simp, by go_simp⟩); (· go_simp); (· omega); (· omega); rintro e w' ⟨rfl, n, rfl⟩) | go_in)
    exact bodyPost_ret (v := .agg #[.int .i32 (Fx.clamp ax 0 0), .int .i32 (Fx.clamp ay 0 0), .int .i32 (Fx.clamp az 0 0)]) (by simp [results, Tryd.results33, go_sem, pick]) rfl ⟨rfl, by repeat' (first | (with_reducible exact Below.refl _ _) | (with_reducible assumption) | (with_reducible refine Below.setCell ?_ ?_ _) | (with_reducible refine Below.alloc ?_ ?_ _) | (with_reducible refine Below.drew ?_) | (with_reducible refine Below.drawsN ?_ _) | go_size)⟩
  · rw [show max m 0 = m from by omega]
    go_enter Tryd.func33, Tryd.ntmps33
    go_wp2_with (first | (go_at_call 52; refine (ClampC _ _ _ ax ay az m _ ?_ ?_ ?_ ?_ ?_).mono ?_; (· decide); (· exact ⟨by go_simp, by go_simp, by go_simp⟩); (· go_simp); (· omega); (· omega); rintro e w' ⟨rfl, n, rfl⟩) | go_in)
    all_goals exact bodyPost_ret (v := .agg #[.int .i32 (Fx.clamp ax (-m) m), .int .i32 (Fx.clamp ay (-m) m), .int .i32 (Fx.clamp az (-m) m)]) (by simp [results, Tryd.results33, go_sem, pick]) rfl ⟨rfl, by repeat' (first | (with_reducible exact Below.refl _ _) | (with_reducible assumption) | (with_reducible refine Below.setCell ?_ ?_ _) | (with_reducible refine Below.alloc ?_ ?_ _) | (with_reducible refine Below.drew ?_) | (with_reducible refine Below.drawsN ?_ _) | go_size)⟩

/-- the sign outside of what is dead -/
def sgn (n d : Int) : Int := if d < n then 1 else if n < -d then -1 else 0
theorem sgn_pick (i x y z d : Int) : sgn (pick i x y z) d = pick i (sgn x d) (sgn y d) (sgn z d) := by
  unfold pick; split <;> (try split) <;> rfl

set_option maxHeartbeats 400000 in
theorem sign_any (n d : Int) (w : World) (h0 : 0 ≤ d) (h1 : d ≤ 2147483647) :
    Calls Tryd.prog 46 #[.int .i32 n, .int .i32 d] w fun e w' => e = .returned (.int .i64 (sgn n d)) ∧ w = w' := by
  go_enter Tryd.func46, Tryd.ntmps46
  go_wp2
  all_goals
    go_ret
    exact ⟨ret_int (by unfold sgn; (try split) <;> (try split) <;> omega), rfl⟩

set_option maxHeartbeats 400000 in
theorem SignsC (i : Int) (b1 b2 : Nat) (ax ay az m : Int) (w : World) (hi : i = 0 ∨ i = 1 ∨ i = 2) (h1 : Three w .i32 b1 ax ay az) (h2 : w.cell? ⟨b2, 0, none⟩ = some (.int .i32 m)) (hm : 0 ≤ m) (hm' : m ≤ 2147483647) :
    Calls Tryd.prog 45 #[.int .i64 i, .pointer (some ⟨b1, 0, none⟩), .pointer (some ⟨b2, 0, none⟩)] w fun e w' => e = .returned (.int .i64 (sgn (pick i ax ay az) m)) ∧ ∃ n, w' = w.drewN n := by
  obtain ⟨p0, p1, p2⟩ := h1
  rcases hi with rfl | rfl | rfl
  all_goals
    simp only [pick]
    go_enter Tryd.func45, Tryd.ntmps45
    go_wp2
    go_quiet ((go_at_call 46; exact quiet_eq (sign_any _ _ _ (by omega) (by omega))))
    go_wp2
    go_ret
    exact ⟨rfl, _, rfl⟩

set_option maxHeartbeats 400000 in
theorem vSigns_any (ax ay az m : Int) (w : World) (hm : -2147483648 ≤ m) (hm' : m ≤ 2147483647) :
    Calls Tryd.prog 29 #[.agg #[.int .i32 ax, .int .i32 ay, .int .i32 az], .int .i32 m] w fun e w' => e = .returned (.agg #[.int .i64 (sgn ax (max m 0)), .int .i64 (sgn ay (max m 0)), .int .i64 (sgn az (max m 0))]) ∧ Below w.heap.size w w' := by
  rcases (by omega : m < 0 ∨ 0 ≤ m) with h | h
  · rw [show max m 0 = 0 from by omega]
    go_enter Tryd.func29, Tryd.ntmps29
    go_wp2_with (first | (go_at_call 45; refine (SignsC _ _ _ ax ay az 0 _ ?_ ?_ ?_ ?_ ?_).mono ?_; (· decide); (· exact ⟨by go_simp, by go_simp, by go_simp⟩); (· go_simp); (· omega); (· omega); rintro e w' ⟨rfl, n, rfl⟩) | go_in)
    exact bodyPost_ret (v := .agg #[.int .i64 (sgn ax 0), .int .i64 (sgn ay 0), .int .i64 (sgn az 0)]) (by simp [results, Tryd.results29, go_sem, pick]) rfl ⟨rfl, by repeat' (first | (with_reducible exact Below.refl _ _) | (with_reducible assumption) | (with_reducible refine Below.setCell ?_ ?_ _) | (with_reducible refine Below.alloc ?_ ?_ _) | (with_reducible refine Below.drew ?_) | (with_reducible refine Below.drawsN ?_ _) | go_size)⟩
  · rw [show max m 0 = m from by omega]
    go_enter Tryd.func29, Tryd.ntmps29
    go_wp2_with (first | (go_at_call 45; refine (SignsC _ _ _ ax ay az m _ ?_ ?_ ?_ ?_ ?_).mono ?_; (· decide); (· exact ⟨by go_simp, by go_simp, by go_simp⟩); (· go_simp); (· omega); (· omega); rintro e w' ⟨rfl, n, rfl⟩) | go_in)
    all_goals exact bodyPost_ret (v := .agg #[.int .i64 (sgn ax m), .int .i64 (sgn ay m), .int .i64 (sgn az m)]) (by simp [results, Tryd.results29, go_sem, pick]) rfl ⟨rfl, by repeat' (first | (with_reducible exact Below.refl _ _) | (with_reducible assumption) | (with_reducible refine Below.setCell ?_ ?_ _) | (with_reducible refine Below.alloc ?_ ?_ _) | (with_reducible refine Below.drew ?_) | (with_reducible refine Below.drawsN ?_ _) | go_size)⟩

set_option maxHeartbeats 400000 in
theorem DotC (i : Int) (b1 b2 : Nat) (ax ay az bx by_ bz : Int) (w : World) (hi : i = 0 ∨ i = 1 ∨ i = 2) (h1 : Three w .i32 b1 ax ay az) (h2 : Three w .i32 b2 bx by_ bz)
    (axlo : -2147483648 ≤ ax) (axhi : ax ≤ 2147483647) (aylo : -2147483648 ≤ ay) (ayhi : ay ≤ 2147483647) (azlo : -2147483648 ≤ az) (azhi : az ≤ 2147483647) (bxlo : -2147483648 ≤ bx) (bxhi : bx ≤ 2147483647) (by_lo : -2147483648 ≤ by_) (by_hi : by_ ≤ 2147483647) (bzlo : -2147483648 ≤ bz) (bzhi : bz ≤ 2147483647) :
    Calls Tryd.prog 36 #[.int .i64 i, .pointer (some ⟨b1, 0, none⟩), .pointer (some ⟨b2, 0, none⟩)] w fun e w' => e = .returned (.int .i64 (pick i (ax * bx) (ay * by_) (az * bz))) ∧ ∃ n, w' = w.drewN n := by
  obtain ⟨p0, p1, p2⟩ := h1
  obtain ⟨q0, q1, q2⟩ := h2
  have m0 := Fx.mul_bd ax bx 2147483648 2147483648 (by omega) (by omega) (by omega) (by omega)
  have m1 := Fx.mul_bd ay by_ 2147483648 2147483648 (by omega) (by omega) (by omega) (by omega)
  have m2 := Fx.mul_bd az bz 2147483648 2147483648 (by omega) (by omega) (by omega) (by omega)
  have k0 : IntKind.i64.wrap (ax * bx) = ax * bx := IntWalk.i64_in _ (by omega)
  have k1 : IntKind.i64.wrap (ay * by_) = ay * by_ := IntWalk.i64_in _ (by omega)
  have k2 : IntKind.i64.wrap (az * bz) = az * bz := IntWalk.i64_in _ (by omega)
  rcases hi with rfl | rfl | rfl
  all_goals
    simp only [pick]
    go_enter Tryd.func36, Tryd.ntmps36
    go_wp2
    go_quiet (fail)
    go_wp2
    go_ret
    exact ⟨rfl, _, rfl⟩

end Go.Proofs.YtinaimacocgemaaDoor
