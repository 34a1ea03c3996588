/- Contracts of the functions of package fixq and of the reference's Sat, Down, Power. -/
import Derived.Test.YtnjkpamjjdkmoaaChecked
import Derived.Test.YtnjkpamjjdkmoaaFixPlain
import Derived.WalkKit
import Derived.WalkSpells
import Derived.Outline
import Derived.Lib.Hide
namespace Go.Proofs.Ytnjkpamjjdkmoaa
open Go.RowKit
set_option linter.unusedVariables false

theorem ret_int {k : IntKind} {a b : Int} (h : a = b) : Ending.returned (.int k a) = .returned (.int k b) := by rw [h]

set_option maxHeartbeats 400000 in
theorem Sat_any (n : Int) (w : World) (h : -9223372036854775808 ≤ n) (h' : n ≤ 9223372036854775807) :
    Calls Try.prog 89 #[.int .i64 n] w fun e w' => e = .returned (.int .i32 (Fx.sat n)) ∧ w = w' := by
  have e : max (-2147483648) (min n 2147483647) = Fx.sat n := by unfold Fx.sat; split <;> (try split) <;> omega
  by_cases h1 : 2147483647 < n
  · go_enter Try.func89, Try.ntmps89
    go_wp2
    all_goals
      go_ret
      exact ⟨ret_int (by omega), rfl⟩
  · by_cases h2 : n < -2147483648
    · go_enter Try.func89, Try.ntmps89
      go_wp2
      all_goals
        go_ret
        exact ⟨ret_int (by omega), rfl⟩
    · have H := Lib.hid e; clear e
      go_enter Try.func89, Try.ntmps89
      go_wp2
      all_goals
        go_ret
        exact ⟨ret_int (by have := H.out; omega), rfl⟩

set_option maxHeartbeats 400000 in
theorem fb_any (n : Int) (w : World) :
    Calls Try.prog 127 #[.int .i64 n] w fun e w' => e = .returned (.int .i64 (Fx.fb n)) ∧ w = w' := by
  go_enter Try.func127, Try.ntmps127
  go_wp2
  all_goals
    go_ret
    exact ⟨ret_int (by unfold Fx.fb; omega), rfl⟩

set_option maxHeartbeats 400000 in
theorem Sub_any (a b : Int) (w : World) (ha : -2147483648 ≤ a) (ha' : a ≤ 2147483647) (hb : -2147483648 ≤ b) (hb' : b ≤ 2147483647) :
    Calls Try.prog 85 #[.int .i32 a, .int .i32 b] w fun e w' => e = .returned (.int .i32 (Fx.sat (a - b))) ∧ w = w' := by
  go_enter Try.func85, Try.ntmps85
  go_wp2_with (go_at_call 89; (refine (Sat_any _ _ (by omega) (by omega)).mono ?_); rintro e w' ⟨rfl, rfl⟩)
  go_ret
  exact ⟨rfl, rfl⟩

set_option maxHeartbeats 400000 in
theorem Neg_any (a : Int) (w : World) (ha : -2147483648 ≤ a) (ha' : a ≤ 2147483647) :
    Calls Try.prog 87 #[.int .i32 a] w fun e w' => e = .returned (.int .i32 (Fx.sat (-a))) ∧ w = w' := by
  go_enter Try.func87, Try.ntmps87
  go_wp2_with (go_at_call 89; (refine (Sat_any _ _ (by omega) (by omega)).mono ?_); rintro e w' ⟨rfl, rfl⟩)
  go_ret
  exact ⟨rfl, rfl⟩

set_option maxHeartbeats 400000 in
theorem Mul_any (a b q : Int) (w : World) (ha : -2147483648 ≤ a) (ha' : a ≤ 2147483647) (hb : -2147483648 ≤ b) (hb' : b ≤ 2147483647) :
    Calls Try.prog 83 #[.int .i32 a, .int .i32 b, .int .i64 q] w fun e w' => e = .returned (.int .i32 (Fx.sat (a * b / Fx.pw q))) ∧ w = w' := by
  have f0 := Fx.fb_lo q
  have f1 := Fx.fb_hi q
  have m0 := Fx.mul_bd a b 2147483648 2147483648 (by omega) (by omega) (by omega) (by omega)
  have d0 := Fx.ediv_bd (a * b) (Fx.pw q) 4611686018427387904 (Fx.pw_pos q) (by omega) (by omega)
  unfold Fx.pw at *
  go_enter Try.func83, Try.ntmps83
  go_wp2_with (first | (go_at_call 127; (refine (fb_any _ _).mono ?_); rintro e w' ⟨rfl, rfl⟩) | (go_at_call 89; (refine (Sat_any _ _ (by omega) (by omega)).mono ?_); rintro e w' ⟨rfl, rfl⟩))
  go_ret
  exact ⟨rfl, rfl⟩

set_option maxHeartbeats 400000 in
theorem plus_any (a b : Int) (w : World) (ha : -9223372036854775808 ≤ a) (ha' : a ≤ 9223372036854775807) (hb : -9223372036854775808 ≤ b) (hb' : b ≤ 9223372036854775807) :
    Calls Try.prog 126 #[.int .i64 a, .int .i64 b] w fun e w' => e = .returned (.int .i64 (Fx.sat64 (a + b))) ∧ w = w' := by
  by_cases h1 : 9223372036854775807 < a + b
  · go_enter Try.func126, Try.ntmps126
    go_wp2
    all_goals
      go_ret
      exact ⟨ret_int (by unfold Fx.sat64; (try split) <;> (try split) <;> omega), rfl⟩
  · by_cases h2 : a + b < -9223372036854775808
    · go_enter Try.func126, Try.ntmps126
      go_wp2
      all_goals
        go_ret
        exact ⟨ret_int (by unfold Fx.sat64; (try split) <;> (try split) <;> omega), rfl⟩
    · go_enter Try.func126, Try.ntmps126
      go_wp2
      all_goals
        go_ret
        exact ⟨ret_int (by unfold Fx.sat64; (try split) <;> (try split) <;> omega), rfl⟩

set_option maxHeartbeats 400000 in
theorem Add_any (b off len cap : Nat) (zs : List Int) (w : World) (hz : len = zs.length) (hbig : len ≤ 4294967295)
    (hr : ∀ x, x ∈ zs → -2147483648 ≤ x ∧ x ≤ 2147483647)
    (hc : ∀ j, j < zs.length → w.cell? ⟨b, off + j, none⟩ = some (.int .i32 (zs.getD j 0))) :
    Calls Try.prog 77 #[.slice (some ⟨b, off, none⟩) len cap] w fun e w' => e = .returned (.int .i32 (Fx.sat (Fx.sum zs))) ∧ w = w' := by
  subst hz
  have hfull := Fx.sum_bd zs hr
  go_enter Try.func77, Try.ntmps77
  go_wp2
  go_loop [3, 5, 8] (fun s _ i => ∃ k : Nat, k ≤ zs.length ∧ i = .int .i64 k ∧ s = .int .i64 (Fx.sum (zs.take k))) (fun _ _ i => zs.length - (intOf i).toNat)
  case atStart => exact ⟨0, Nat.zero_le _, rfl, rfl⟩
  case round =>
    obtain ⟨k, hk, rfl, rfl⟩ := hrel
    have hcell : k < zs.length → w.cell? ⟨b, off + k, none⟩ = some (.int .i32 (zs.getD k 0)) := fun h => hc k h
    have hbd := Fx.sum_bd (zs.take k) (fun x hx => hr x (List.mem_of_mem_take hx))
    have hl : (zs.take k).length = k := by simp; omega
    rw [hl] at hbd
    by_cases hlt : k < zs.length
    · have hx := hr (zs.getD k 0) (by simp [List.getD, hlt])
      have hs : Fx.sum (zs.take (k + 1)) = Fx.sum (zs.take k) + zs.getD k 0 := by rw [Fx.take_snoc zs k hlt, Fx.sum_snoc]
      have H := Lib.hid hs; clear hs hl
      simp only [List.getD, hlt, List.getElem?_eq_getElem, Option.getD_some] at hx
      go_wp2
      go_round
      case rel => exact ⟨k + 1, by omega, by go_num, by rw [H.out]; simp [List.getD, hlt]⟩
      case measure => simp [intOf]; omega
    · have hk2 : zs.take k = zs := List.take_of_length_le (by omega)
      rw [hk2] at *
      clear hl hk2 hbd
      go_wp2_with (go_at_call 89; (refine (Sat_any _ _ (by omega) (by omega)).mono ?_); rintro e w' ⟨rfl, rfl⟩)
      go_ret
      exact ⟨rfl, rfl⟩

set_option maxHeartbeats 400000 in
theorem Add_nil (cap : Nat) (w : World) :
    Calls Try.prog 77 #[.slice none 0 cap] w fun e w' => e = .returned (.int .i32 0) ∧ w = w' := by
  go_enter Try.func77, Try.ntmps77
  go_wp2
  go_loop [3, 5, 8] (fun s _ i => i = .int .i64 0 ∧ s = .int .i64 0) (fun _ _ _ => 0)
  case atStart => exact ⟨rfl, rfl⟩
  case round =>
    obtain ⟨rfl, rfl⟩ := hrel
    go_wp2_with (go_at_call 89; (refine (Sat_any _ _ (by omega) (by omega)).mono ?_); rintro e w' ⟨rfl, rfl⟩)
    go_ret
    exact ⟨ret_int (by decide), rfl⟩

set_option maxHeartbeats 400000 in
theorem Sum_any (b off len cap : Nat) (zs : List Int) (w : World) (hz : len = zs.length) (hbig : len ≤ 4294967295)
    (hr : ∀ x, x ∈ zs → -9223372036854775808 ≤ x ∧ x ≤ 9223372036854775807)
    (hc : ∀ j, j < zs.length → w.cell? ⟨b, off + j, none⟩ = some (.int .i64 (zs.getD j 0))) :
    Calls Try.prog 81 #[.slice (some ⟨b, off, none⟩) len cap] w fun e w' => e = .returned (.int .i64 (Fx.sums zs)) ∧ w = w' := by
  subst hz
  go_enter Try.func81, Try.ntmps81
  go_wp2
  go_loop [3, 5, 8] (fun s _ i => ∃ k : Nat, k ≤ zs.length ∧ i = .int .i64 k ∧ s = .int .i64 (Fx.sums (zs.take k))) (fun _ _ i => zs.length - (intOf i).toNat)
  case atStart => exact ⟨0, Nat.zero_le _, rfl, rfl⟩
  case round =>
    obtain ⟨k, hk, rfl, rfl⟩ := hrel
    have hcell : k < zs.length → w.cell? ⟨b, off + k, none⟩ = some (.int .i64 (zs.getD k 0)) := fun h => hc k h
    have hbd := Fx.sums_bd (zs.take k)
    by_cases hlt : k < zs.length
    · have hx := hr (zs.getD k 0) (by simp [List.getD, hlt])
      have hs : Fx.sums (zs.take (k + 1)) = Fx.sat64 (Fx.sums (zs.take k) + zs.getD k 0) := by rw [Fx.take_snoc zs k hlt, Fx.sums_snoc]
      have H := Lib.hid hs; clear hs
      simp only [List.getD, hlt, List.getElem?_eq_getElem, Option.getD_some] at hx
      go_wp2_with (go_at_call 126; (refine (plus_any _ _ _ (by omega) (by omega) (by omega) (by omega)).mono ?_); rintro e w' ⟨rfl, rfl⟩)
      go_round
      case rel => exact ⟨k + 1, by omega, by go_num, by rw [H.out]; simp [List.getD, hlt]⟩
      case measure => simp [intOf]; omega
    · have hk2 : zs.take k = zs := List.take_of_length_le (by omega)
      rw [hk2] at *
      clear hk2 hbd
      go_wp2
      go_ret
      exact ⟨rfl, rfl⟩

theorem or_i64 (r k : Nat) (h : 2 ^ (k + 1) ∣ r) (h1 : r + 2 ^ (k + 1) ≤ 2147483648) : bits .or .i64 (r : Int) (Fx.bv (k + 1) : Int) = (r : Int) + Fx.bv (k + 1) := by
  rw [Fx.bv_succ]
  have hp : (2 : Nat) ^ (k + 1) = 2 ^ k + 2 ^ k := by rw [Nat.pow_succ]; omega
  have hj : r ||| 2 ^ k = r + 2 ^ k := nat_join (k + 1) r (2 ^ k) (Nat.mod_eq_zero_of_dvd h) (by have := Nat.pow_pos (n := k) (show 0 < 2 by decide); omega)
  show IntKind.i64.wrap ((BitVec.ofInt 64 (r : Int) ||| BitVec.ofInt 64 ((2 ^ k : Nat) : Int)).toNat : Int) = _
  rw [BitVec.toNat_or, ofInt_u64 r (by omega), ofInt_u64 _ (by omega), hj, IntKind.wrap_i64]
  omega

set_option maxHeartbeats 400000 in
theorem Root_any (n : Int) (w : World) (hn : n ≤ 9223372036854775807) :
    Calls Try.prog 125 #[.int .i64 n] w fun e w' => e = .returned (.int .i32 (Fx.root n)) ∧ w = w' := by
  go_enter Try.func125, Try.ntmps125
  go_wp2
  go_loop [3, 4] (fun r i => ∃ k R : Nat, k ≤ 31 ∧ i = .int .i64 (Fx.bv k) ∧ r = .int .i64 R ∧ 2 ^ k ∣ R ∧ R + 2 ^ k ≤ 2147483648 ∧ Fx.rootTo n k R = Fx.root n) (fun _ i => (intOf i).toNat)
  case atStart => exact ⟨31, 0, by omega, rfl, rfl, ⟨0, rfl⟩, by decide, rfl⟩
  case round =>
    obtain ⟨k, R, hk, rfl, rfl, hd, hR, hroot⟩ := hrel
    match k with
    | 0 =>
      have hl := Fx.root_le n
      have hroot : R = Fx.root n := hroot
      rw [hroot]
      clear hroot hR hd
      rw [show (Fx.bv 0 : Int) = 0 from rfl]
      go_wp2
      go_ret
      exact ⟨rfl, rfl⟩
    | k + 1 =>
      have hor := or_i64 R k hd hR
      have hb := Fx.bv_succ k
      have hp : (2 : Nat) ^ (k + 1) = 2 ^ k + 2 ^ k := by rw [Nat.pow_succ]; omega
      have hpos : 1 ≤ 2 ^ k := Nat.pow_pos (by decide)
      have hd2 : 2 ^ k ∣ R := Nat.dvd_trans ⟨2, by rw [Nat.pow_succ]⟩ hd
      have hy := Fx.rootTo_yes n k R
      have hno := Fx.rootTo_no n k R
      have hh := Fx.bv_half k
      have b1 : 1 ≤ Fx.bv (k + 1) := by omega
      have b2 : R + Fx.bv (k + 1) ≤ 2147483647 := by omega
      have hd3 : 2 ^ k ∣ R + Fx.bv (k + 1) := by rw [hb]; exact Nat.dvd_add hd2 (Nat.dvd_refl _)
      have r1 : R + Fx.bv (k + 1) + 2 ^ k ≤ 2147483648 := by omega
      have r2 : R + 2 ^ k ≤ 2147483648 := by omega
      have m0 := Fx.mul_bd ((R : Int) + Fx.bv (k + 1)) ((R : Int) + Fx.bv (k + 1)) 2147483648 2147483648 (by omega) (by omega) (by omega) (by omega)
      have HR := Lib.hid hroot
      have HY := Lib.hid hy
      have HN := Lib.hid hno
      have HH := Lib.hid hh
      have D2 := Lib.hid hd2
      have D3 := Lib.hid hd3
      have R1 := Lib.hid r1
      have R2 := Lib.hid r2
      clear hd hR hroot hy hno hh hb hp hpos hd2 hd3 r1 r2
      by_cases ht : ((R : Int) + Fx.bv (k + 1)) * ((R : Int) + Fx.bv (k + 1)) ≤ n
      · go_wp2
        go_round
        case rel => exact ⟨k, R + Fx.bv (k + 1), by omega, by rw [← HH.out]; go_num, by go_num, D3.out, R1.out, by rw [← HR.out, HY.out ht]⟩
        case measure => simp [intOf]; omega
      · go_wp2
        go_round
        case rel => exact ⟨k, R, by omega, by rw [← HH.out]; go_num, by go_num, D2.out, R2.out, by rw [← HR.out, HN.out (by omega)]⟩
        case measure => simp [intOf]; omega

end Go.Proofs.Ytnjkpamjjdkmoaa
