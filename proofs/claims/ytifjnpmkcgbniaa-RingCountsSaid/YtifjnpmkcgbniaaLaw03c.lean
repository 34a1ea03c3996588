/- Layer 3: what is lost and dropped is counted up to the greatest number. -/
import Derived.Test.YtifjnpmkcgbniaaLaw03q
import Derived.Test.YtifjnpmkcgbniaaRingOb
namespace Go.Proofs.Ytifjnpmkcgbniaa
open Go.RowKit Go.Own
set_option linter.unusedVariables false
set_option linter.unusedSimpArgs false
set_option maxRecDepth 100000 in
set_option maxHeartbeats 4000000 in
theorem walk_RingCounts (mr : Int) (w : World) (wr : (Lit.int .u8 mr).wf = true) :
    Calls Try.prog 10 #[.int .u8 mr] w fun e w' => e = .returned (.bool true) ∧ Below w.heap.size w w' := by
  obtain ⟨r0, r1⟩ := bounds_u8 wr
  obtain ⟨mr, rfl⟩ := Int.eq_ofNat_of_zero_le r0
  obtain ⟨q, hq⟩ : ∃ q, q = mr % 12 := ⟨_, rfl⟩
  have hqI : (mr : Int) % 12 = (q : Int) := by omega
  obtain ⟨N, hN⟩ : ∃ N, N = 65530 + q := ⟨_, rfl⟩
  have hNI : 65530 + (q : Int) = (N : Int) := by omega
  have hN1 : N ≤ 65541 := by omega
  have hN0 : 1 ≤ N := by omega
  obtain ⟨M, hM⟩ : ∃ M, M = min N 65535 := ⟨_, rfl⟩
  have hmn : ∀ w : World, (Builtin.min_ #[3, 3] 3 #[.int .i64 (N : Nat), .int .i64 65535]).run Try.prog w = .ok (.int .i64 (M : Nat)) w := fun w => by
    rw [run_min2, hM]; congr 2; omega
  have HM := Lib.hid hM
  clear wr hq hN hM r0 r1
  go_enter Try.func10, Try.ntmps10
  go_wp2_with (go_at_call 36; refine (awake03 _).mono ?_; rintro e w1 ⟨rfl, hb1⟩)
  go_at_call 47
  refine (B8.iNew_ok 1 w1 (by omega) (by omega)).mono ?_
  rintro e w2 ⟨g, b, rfl, hR, hg, hb, hB2⟩
  have H2 := Lib.hid hR
  have hs1 : w.heap.size ≤ w1.heap.size := hb1.size
  have HB2 := Lib.hid (hb1.trans (hB2.mono hs1))
  have hs2 : w.heap.size ≤ w2.heap.size := HB2.out.size
  clear hR hB2 hb1
  go_wp2_with fail
  go_at_call 48
  refine (B8.rOffer_room 1 H2.out (by decide)).mono ?_
  rintro e w3 ⟨rfl, h3, k3⟩
  have H3 := Lib.hid h3
  have HB3 := Lib.hid (HB2.out.trans (k3.below (by omega) (by omega) hs2))
  have hs3 : w.heap.size ≤ w3.heap.size := HB3.out.size
  clear h3 k3 H2 HB2 hs2
  go_wp2
  go_loopw [21] (fun i wr => ∃ j : Nat, j ≤ N ∧ i = .int .i64 j ∧ B8.Ring wr g b 1 [1] 0 (min j 65535) ∧ Below w.heap.size w wr) (fun i _ => N - (intOf i).toNat)
  case atStart => exact ⟨0, Nat.zero_le _, rfl, H3.out, HB3.out⟩
  case round =>
    obtain ⟨j, hj, rfl, hR, hB⟩ := hrel
    have hsr : w.heap.size ≤ wr.heap.size := hB.size
    by_cases hlt : j < N
    · have HR := Lib.hid hR
      have HB := Lib.hid hB
      have hm : min (min j 65535 + 1) 65535 = min (j + 1) 65535 := by omega
      have HMN := Lib.hid hm
      clear hR hB hm
      go_wp2_with fail
      go_at_call 48
      refine (B8.rOffer_full 2 HR.out rfl).mono ?_
      rintro e w4 ⟨rfl, h4, k4⟩
      rw [HMN.out] at h4
      have H4 := Lib.hid h4
      have HB4 := Lib.hid (HB.out.trans (k4.below (by omega) (by omega) hsr))
      clear h4 k4
      go_wp2
      go_roundw
      case rel => exact ⟨j + 1, by omega, by go_num, H4.out, HB4.out⟩
      case measure => simp [intOf]; omega
    · obtain rfl : j = N := by omega
      have HR := Lib.hid hR
      have HB := Lib.hid hB
      obtain ⟨wf, rfl⟩ : ∃ wf : World, wf = wr := ⟨_, rfl⟩
      clear hR hB
      go_wp2
      go_loopw [27] (fun i wr => ∃ (k : Nat) (x : Int), k ≤ j ∧ i = .int .i64 k ∧ (1 ≤ k → x = 3) ∧ B8.Ring wr g b 1 [x] (min k 65535) (min j 65535) ∧ Below w.heap.size w wr) (fun i _ => j - (intOf i).toNat)
      case atStart => exact ⟨0, 1, Nat.zero_le _, rfl, fun h => by omega, HR.out, HB.out⟩
      case round =>
        obtain ⟨k, x, hk, rfl, hx, hR, hB⟩ := hrel
        have hsr2 : w.heap.size ≤ wr.heap.size := hB.size
        have hle := hR.le
        by_cases hlt2 : k < j
        · have HR2 := Lib.hid hR
          have HB2 := Lib.hid hB
          have hm : min (min k 65535 + ([x].length + 1 - 1)) 65535 = min (k + 1) 65535 := by simp; omega
          have HMN := Lib.hid hm
          clear hR hB hm hx
          go_wp2_with fail
          go_at_call 49
          have hal : Below wr.heap.size wr (wr.alloc (.cells #[.int .u8 3] 5)) := (Below.refl _ _).alloc (Nat.le_refl _) _
          have hrd : Rd (wr.alloc (.cells #[.int .u8 3] 5)).heap.size (wr.alloc (.cells #[.int .u8 3] 5)) (some ⟨wr.heap.size, 0, none⟩) 1 1 (B8.iv [3]) :=
            ⟨Nat.le_refl _, by unfold maxLen; omega, fun h => (by cases h), fun _ => ⟨wr.heap.size, 0, rfl, by simp, fun i hi => by
              obtain rfl : i = 0 := by omega
              exact cell_of_row _ _ 0 _ _ _ (heap_alloc_new wr _)⟩⟩
          refine (B8.rPush (some ⟨wr.heap.size, 0, none⟩) 1 1 [3] (HR2.out.below hal (Nat.le_refl _)) rfl hrd (fun y hy => by cases hy; exact ⟨by show wr.heap.size ≠ g; omega, by show wr.heap.size ≠ b; omega⟩) (by omega)).mono ?_
          rintro e w5 ⟨rfl, h5, k5⟩
          rw [HMN.out] at h5
          have e5 : B8.lastn 1 ([x] ++ [3]) = [3] := rfl
          rw [e5] at h5
          have H5 := Lib.hid h5
          have HB5 := Lib.hid (HB2.out.trans ((hal.mono hsr2).trans (k5.below (by omega) (by omega) (by simp; omega))))
          clear h5 k5 hal hrd e5
          go_wp2
          go_roundw
          case rel => exact ⟨k + 1, 3, by omega, by go_num, fun _ => rfl, H5.out, HB5.out⟩
          case measure => simp [intOf]; omega
        · obtain rfl : k = j := by omega
          have hx3 := hx hN0
          subst hx3
          rw [← HM.out] at hR
          have HR3 := Lib.hid hR
          have HB3' := Lib.hid hB
          clear hR hB hx
          go_wp2_with fail
          go_at_call 50
          refine (B8.rAt_some HR3.out 0 (by decide)).mono ?_
          rintro e w6 ⟨rfl, q6, rfl⟩
          have h6 := HR3.out.below (B8.below_drewsI wr.heap.size wr q6) (Nat.le_refl _)
          have HB6 := Lib.hid (HB3'.out.trans (B8.below_drewsI _ wr q6))
          obtain ⟨w6, hw6⟩ : ∃ w6, w6 = wr.drewN q6 := ⟨_, rfl⟩
          rw [← hw6] at h6 HB6
          rw [← hw6]
          have H6 := Lib.hid h6
          clear hw6 h6
          dsimp only [List.getD_cons_zero]
          go_wp2_with fail
          go_at_call 51
          refine (B8.rDropped H6.out).mono ?_
          rintro e w' ⟨rfl, rfl⟩
          go_wp2_with fail
          go_at_call 52
          refine (B8.rLost H6.out).mono ?_
          rintro e w' ⟨rfl, rfl⟩
          go_wp2_with fail
          go_at_call 53
          refine (B8.rLen H6.out).mono ?_
          rintro e w' ⟨rfl, rfl⟩
          dsimp only [List.length_cons, List.length_nil]
          go_wp2
          go_ret
          exact ⟨rfl, HB6.out⟩
end Go.Proofs.Ytifjnpmkcgbniaa
