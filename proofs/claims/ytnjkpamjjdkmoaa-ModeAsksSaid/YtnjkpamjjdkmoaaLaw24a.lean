/- ModeAsks. -/
import Derived.Test.YtnjkpamjjdkmoaaLaw24
namespace Go.Proofs.Ytnjkpamjjdkmoaa
open Go.RowKit Go.Own
set_option linter.unusedVariables false
set_option linter.unusedSimpArgs false
set_option maxRecDepth 100000 in
set_option maxHeartbeats 8000000 in
theorem walk_ModeAsks (n0_0 n0_1 n0_2 n0_3 n0_4 : Int) (cs1 : List Value) (w : World) (w0_0 : (Lit.int .u8 n0_0).wf = true) (w0_1 : (Lit.int .u16 n0_1).wf = true) (w0_2 : (Lit.int .u8 n0_2).wf = true) (w0_3 : (Lit.int .u8 n0_3).wf = true) (w0_4 : (Lit.int .u8 n0_4).wf = true) (w1 : Fit w [.int .u8, .int .u8, .int .u8, .int .u16, .int .u16, .int .u16, .int .u16] cs1) :
    Calls Try.prog 14 #[.agg #[.int .u8 n0_0, .int .u16 n0_1, .int .u8 n0_2, .int .u8 n0_3, .int .u8 n0_4], .agg cs1.toArray] w fun e w' => e = .returned (.bool true) ∧ Below w.heap.size w w' := by
  obtain ⟨a0, h1, h2, h3, h4, h5, rfl, rfl, rfl, rfl, rfl⟩ := mo_of w0_0 w0_1 w0_2 w0_3 w0_4
  obtain ⟨c, hc, e1⟩ := cf_fit w1
  rw [e1]
  have HC := Lib.hid hc
  clear w0_0 w0_1 w0_2 w0_3 w0_4 w1 e1 hc cs1
  have hz := zero_mo
  have hq := ((Bq.nil w).new #[.int .u8 ((Mo.m a0 : Nat) : Int), .int .u16 ((Mo.s a0 : Nat) : Int), .int .u8 ((Mo.c a0 : Nat) : Int), .int .u8 ((Mo.n a0 : Nat) : Int), .int .u8 ((Mo.d a0 : Nat) : Int)] 123).new #[.int .u8 ((Cf.calm c : Nat) : Int), .int .u8 ((Cf.seen c : Nat) : Int), .int .u8 ((Cf.lost c : Nat) : Int), .int .u16 ((Cf.t c 0 : Nat) : Int), .int .u16 ((Cf.t c 1 : Nat) : Int), .int .u16 ((Cf.t c 2 : Nat) : Int), .int .u16 ((Cf.t c 3 : Nat) : Int)] 126
  go_enter Try.func14, Try.ntmps14
  go_upto_region 1 with fail
  simp only [World.size_alloc] at hq
  obtain ⟨w1, hw1⟩ : ∃ w1, w1 = (w.alloc (.cells #[.int .u8 ((Mo.m a0 : Nat) : Int), .int .u16 ((Mo.s a0 : Nat) : Int), .int .u8 ((Mo.c a0 : Nat) : Int), .int .u8 ((Mo.n a0 : Nat) : Int), .int .u8 ((Mo.d a0 : Nat) : Int)] 123)).alloc (.cells #[.int .u8 ((Cf.calm c : Nat) : Int), .int .u8 ((Cf.seen c : Nat) : Int), .int .u8 ((Cf.lost c : Nat) : Int), .int .u16 ((Cf.t c 0 : Nat) : Int), .int .u16 ((Cf.t c 1 : Nat) : Int), .int .u16 ((Cf.t c 2 : Nat) : Int), .int .u16 ((Cf.t c 3 : Nat) : Int)] 126) := ⟨_, rfl⟩
  rw [← hw1] at hq ⊢
  obtain ⟨g3, hg3⟩ : ∃ g, g = w.heap.size + 1 := ⟨_, rfl⟩
  rw [← hg3] at hq ⊢
  obtain ⟨g2, hg2⟩ : ∃ g, g = w.heap.size := ⟨_, rfl⟩
  rw [← hg2] at hq
  rw [show (Value.pointer (some ⟨w.heap.size, 0, none⟩)) = .pointer (some ⟨g2, 0, none⟩) by rw [hg2]]
  have HQ1 := Lib.hid (show Bq w w1 [(g2, #[.int .u8 ((Mo.m a0 : Nat) : Int), .int .u16 ((Mo.s a0 : Nat) : Int), .int .u8 ((Mo.c a0 : Nat) : Int), .int .u8 ((Mo.n a0 : Nat) : Int), .int .u8 ((Mo.d a0 : Nat) : Int)], 123), (g3, #[.int .u8 ((Cf.calm c : Nat) : Int), .int .u8 ((Cf.seen c : Nat) : Int), .int .u8 ((Cf.lost c : Nat) : Int), .int .u16 ((Cf.t c 0 : Nat) : Int), .int .u16 ((Cf.t c 1 : Nat) : Int), .int .u16 ((Cf.t c 2 : Nat) : Int), .int .u16 ((Cf.t c 3 : Nat) : Int)], 126)] from hq)
  clear hq hw1 hg2 hg3
  go_wp2_with fail
  go_at_call 65
  refine (awake24 _).mono ?_
  rintro e w2 ⟨rfl, hb⟩
  have HQ2 := Lib.hid (HQ1.out.step hb)
  clear hb HQ1
  have c0 : w2.cell? ⟨g2, 0, none⟩ = some (.int .u8 ((a0.m : Nat) : Int)) := cell_of_row _ _ 0 _ _ _ (HQ2.out.of 0 rfl)
  have f0 := frozen_of_row _ _ 0 _ _ (HQ2.out.of 0 rfl)
  obtain ⟨m, hm⟩ : ∃ m, m = a0.m % 4 := ⟨_, rfl⟩
  have em : (a0.m : Int) % 4 = (m : Int) := by omega
  have hm4 : m < 4 := by omega
  have EM := Lib.hid em
  have HV := Lib.hid (HQ2.out.set 0 rfl 0 (.int .u8 ((m : Nat) : Int)))
  clear em hm
  go_upto_region 4 with fail
  rw [EM.out]
  obtain ⟨a, hae⟩ : ∃ a : Mo, a = ⟨m, a0.s, a0.c, a0.n, a0.d⟩ := ⟨_, rfl⟩
  have ham : a.m = m := by rw [hae]
  have HA := Lib.hid (show a.Ok by rw [hae]; exact ⟨hm4, h2, h3, h4, h5⟩)
  obtain ⟨w3, hw3⟩ : ∃ w1, w1 = w2.setCell ⟨g2, 0, none⟩ (.int .u8 ((m : Nat) : Int)) := ⟨_, rfl⟩
  have HQ3 := Lib.hid (show Bq w w3 [(g2, #[.int .u8 ((Mo.m a : Nat) : Int), .int .u16 ((Mo.s a : Nat) : Int), .int .u8 ((Mo.c a : Nat) : Int), .int .u8 ((Mo.n a : Nat) : Int), .int .u8 ((Mo.d a : Nat) : Int)], 123), (g3, #[.int .u8 ((Cf.calm c : Nat) : Int), .int .u8 ((Cf.seen c : Nat) : Int), .int .u8 ((Cf.lost c : Nat) : Int), .int .u16 ((Cf.t c 0 : Nat) : Int), .int .u16 ((Cf.t c 1 : Nat) : Int), .int .u16 ((Cf.t c 2 : Nat) : Int), .int .u16 ((Cf.t c 3 : Nat) : Int)], 126)] by rw [hw3, hae]; exact HV.out)
  rw [← hw3]
  clear hw3 HV EM c0 f0 HQ2 hae h1 h2 h3 h4 h5 ham hm4
  have b0 := HQ3.out.of 0 rfl
  have b1 := HQ3.out.of 1 rfl
  have hA0 := fun w => Ask_any a c 0 w HA.out HC.out (by decide)
  have HA0 := Lib.hid (show ∀ w, Calls Try.prog 69 #[.agg #[.int .u8 ((Mo.m a : Nat) : Int), .int .u16 ((Mo.s a : Nat) : Int), .int .u8 ((Mo.c a : Nat) : Int), .int .u8 ((Mo.n a : Nat) : Int), .int .u8 ((Mo.d a : Nat) : Int)], .agg #[.int .u8 ((Cf.calm c : Nat) : Int), .int .u8 ((Cf.seen c : Nat) : Int), .int .u8 ((Cf.lost c : Nat) : Int), .int .u16 ((Cf.t c 0 : Nat) : Int), .int .u16 ((Cf.t c 1 : Nat) : Int), .int .u16 ((Cf.t c 2 : Nat) : Int), .int .u16 ((Cf.t c 3 : Nat) : Int)], .int .u8 0] w fun e w' => e = .returned (.tuple #[.agg #[.int .u8 0, .int .u16 0, .int .u8 0, .int .u8 0, .int .u8 0], .int .i64 0]) ∧ Below w.heap.size w w' from hA0)
  clear hA0
  go_wp2_with (first | ((with_reducible show wpList _ _ _ (_ :: _) _ _); refine wpList_load_row rfl 123 _ rfl _ rfl _ _ _ _ b0 Try.underlying123 rfl (by exact size_mo) ?_; (try go_simp)) | ((with_reducible show wpList _ _ _ (_ :: _) _ _); refine wpList_load_row rfl 126 _ rfl _ rfl _ _ _ _ b1 Try.underlying126 rfl (by exact size_cf) ?_; (try go_simp)))
  refine (HA0.out _).mono ?_
  rintro e w4 ⟨rfl, hb⟩
  have HQ4 := Lib.hid ((HQ3.out.step hb).new #[.int .u8 0, .int .u16 0, .int .u8 0, .int .u8 0, .int .u8 0] 123)
  clear hb b0 b1 HQ3 HA0
  go_upto_region 5 with ((with_reducible show wpList _ _ _ (_ :: _) _ _); refine wpList_store_row rfl 123 _ _ rfl _ _ rfl rfl _ _ (heap_alloc_new _ _) (by exact size_mo) (by rfl) (by simp [Value.oneCell']) ?_; rw [World.setRow_alloc_new])
  obtain ⟨w5, hw5⟩ : ∃ w1, w1 = w4.alloc (.cells #[.int .u8 0, .int .u16 0, .int .u8 0, .int .u8 0, .int .u8 0] 123) := ⟨_, rfl⟩
  obtain ⟨g5, hg5⟩ : ∃ g, g = w4.heap.size := ⟨_, rfl⟩
  have HQ5 := Lib.hid (show Bq w w5 [(g2, #[.int .u8 ((Mo.m a : Nat) : Int), .int .u16 ((Mo.s a : Nat) : Int), .int .u8 ((Mo.c a : Nat) : Int), .int .u8 ((Mo.n a : Nat) : Int), .int .u8 ((Mo.d a : Nat) : Int)], 123), (g3, #[.int .u8 ((Cf.calm c : Nat) : Int), .int .u8 ((Cf.seen c : Nat) : Int), .int .u8 ((Cf.lost c : Nat) : Int), .int .u16 ((Cf.t c 0 : Nat) : Int), .int .u16 ((Cf.t c 1 : Nat) : Int), .int .u16 ((Cf.t c 2 : Nat) : Int), .int .u16 ((Cf.t c 3 : Nat) : Int)], 126), (g5, #[.int .u8 0, .int .u16 0, .int .u8 0, .int .u8 0, .int .u8 0], 123)] by rw [hw5, hg5]; exact HQ4.out)
  rw [← hw5, ← hg5]
  clear hw5 hg5 HQ4
  have k0 : w5.cell? ⟨g5, 0, none⟩ = some (.int .u8 0) := cell_of_row _ _ 0 _ _ _ (HQ5.out.of 2 rfl)
  have k1 : w5.cell? ⟨g5, 1, none⟩ = some (.int .u16 0) := cell_of_row _ _ 1 _ _ _ (HQ5.out.of 2 rfl)
  have k2 : w5.cell? ⟨g5, 2, none⟩ = some (.int .u8 0) := cell_of_row _ _ 2 _ _ _ (HQ5.out.of 2 rfl)
  have k3 : w5.cell? ⟨g5, 3, none⟩ = some (.int .u8 0) := cell_of_row _ _ 3 _ _ _ (HQ5.out.of 2 rfl)
  have k4 : w5.cell? ⟨g5, 4, none⟩ = some (.int .u8 0) := cell_of_row _ _ 4 _ _ _ (HQ5.out.of 2 rfl)
  have hne := neqMo moZ_ok
  have hne2 : ∀ w, (binOp .neq 123 (.agg #[.int .u8 0, .int .u16 0, .int .u8 0, .int .u8 0, .int .u8 0]) (.agg #[.int .u8 0, .int .u16 0, .int .u8 0, .int .u8 0, .int .u8 0])).run Try.prog w = .ok (.bool false) w := hne
  clear hne
  go_wp2_with fail
  clear k0 k1 k2 k3 k4 hne2
  go_loopw [7] (fun v wr => ∃ k : Nat, 0 < k ∧ k ≤ 4 ∧ v = .int .u8 (k : Nat) ∧ Bq w wr [(g2, #[.int .u8 ((Mo.m a : Nat) : Int), .int .u16 ((Mo.s a : Nat) : Int), .int .u8 ((Mo.c a : Nat) : Int), .int .u8 ((Mo.n a : Nat) : Int), .int .u8 ((Mo.d a : Nat) : Int)], 123), (g3, #[.int .u8 ((Cf.calm c : Nat) : Int), .int .u8 ((Cf.seen c : Nat) : Int), .int .u8 ((Cf.lost c : Nat) : Int), .int .u16 ((Cf.t c 0 : Nat) : Int), .int .u16 ((Cf.t c 1 : Nat) : Int), .int .u16 ((Cf.t c 2 : Nat) : Int), .int .u16 ((Cf.t c 3 : Nat) : Int)], 126)]) (fun v _ => 4 - (intOf v).toNat)
  case atStart => exact ⟨1, by decide, by decide, rfl, Bq.front (bs := [(g2, #[.int .u8 ((Mo.m a : Nat) : Int), .int .u16 ((Mo.s a : Nat) : Int), .int .u8 ((Mo.c a : Nat) : Int), .int .u8 ((Mo.n a : Nat) : Int), .int .u8 ((Mo.d a : Nat) : Int)], 123), (g3, #[.int .u8 ((Cf.calm c : Nat) : Int), .int .u8 ((Cf.seen c : Nat) : Int), .int .u8 ((Cf.lost c : Nat) : Int), .int .u16 ((Cf.t c 0 : Nat) : Int), .int .u16 ((Cf.t c 1 : Nat) : Int), .int .u16 ((Cf.t c 2 : Nat) : Int), .int .u16 ((Cf.t c 3 : Nat) : Int)], 126)]) (cs := [(g5, #[.int .u8 0, .int .u16 0, .int .u8 0, .int .u8 0, .int .u8 0], 123)]) HQ5.out⟩
  case round =>
    clear HQ5
    obtain ⟨k, hk0, hk, rfl, hq⟩ := hrel
    have HQ := Lib.hid hq
    clear hq
    by_cases h4 : k < 4
    · clear hk
      obtain ⟨am, hamm⟩ : ∃ n, a.m = n := ⟨_, rfl⟩
      have HM := Lib.hid hamm
      have ham4 : am < 4 := by rw [← hamm]; exact HA.out.1
      have hAk := fun w => Ask_any a c k w HA.out HC.out (by omega)
      have HMAY := Lib.hid (show mayM a c k ↔ ((k = 1 ∧ am = 0) ∨ (k = 2 ∧ (am = 1 ∨ am = 3)) ∨ (k = 3 ∧ am = 2 ∧ c.seen ≤ a.n)) by rw [← hamm]; exact Iff.rfl)
      clear hamm
      by_cases hs : k = am
      · rw [ask_same c (by omega) h4 (by rw [HM.out]; exact hs)] at hAk
        have HK := Lib.hid hAk
        clear hAk
        subst hs
        skip
        have b0 := HQ.out.of 0 rfl
        have b1 := HQ.out.of 1 rfl
        clear h4 hk0
        (try clear hs)
        go_wp2_with (first | ((with_reducible show wpList _ _ _ (_ :: _) _ _); refine wpList_load_row rfl 123 _ rfl _ rfl _ _ _ _ b0 Try.underlying123 rfl (by exact size_mo) ?_; (try go_simp)) | ((with_reducible show wpList _ _ _ (_ :: _) _ _); refine wpList_load_row rfl 126 _ rfl _ rfl _ _ _ _ b1 Try.underlying126 rfl (by exact size_cf) ?_; (try go_simp)))
        refine (HK.out _).mono ?_
        rintro e w6 ⟨rfl, hb⟩
        have HQ6 := Lib.hid ((HQ.out.step hb).new #[.int .u8 ((Mo.m a : Nat) : Int), .int .u16 ((Mo.s a : Nat) : Int), .int .u8 ((Mo.c a : Nat) : Int), .int .u8 ((Mo.n a : Nat) : Int), .int .u8 ((Mo.d a : Nat) : Int)] 123)
        clear hb b0 b1 HQ
        go_upto_region 11 with ((with_reducible show wpList _ _ _ (_ :: _) _ _); refine wpList_store_row rfl 123 _ _ rfl _ _ rfl rfl _ _ (heap_alloc_new _ _) (by exact size_mo) (by rfl) (by simp [Value.oneCell']) ?_; rw [World.setRow_alloc_new])
        obtain ⟨w7, hw7⟩ : ∃ w1, w1 = w6.alloc (.cells #[.int .u8 ((Mo.m a : Nat) : Int), .int .u16 ((Mo.s a : Nat) : Int), .int .u8 ((Mo.c a : Nat) : Int), .int .u8 ((Mo.n a : Nat) : Int), .int .u8 ((Mo.d a : Nat) : Int)] 123) := ⟨_, rfl⟩
        obtain ⟨g8, hg8⟩ : ∃ g, g = w6.heap.size := ⟨_, rfl⟩
        have HQ7 := Lib.hid (show Bq w w7 [(g2, #[.int .u8 ((Mo.m a : Nat) : Int), .int .u16 ((Mo.s a : Nat) : Int), .int .u8 ((Mo.c a : Nat) : Int), .int .u8 ((Mo.n a : Nat) : Int), .int .u8 ((Mo.d a : Nat) : Int)], 123), (g3, #[.int .u8 ((Cf.calm c : Nat) : Int), .int .u8 ((Cf.seen c : Nat) : Int), .int .u8 ((Cf.lost c : Nat) : Int), .int .u16 ((Cf.t c 0 : Nat) : Int), .int .u16 ((Cf.t c 1 : Nat) : Int), .int .u16 ((Cf.t c 2 : Nat) : Int), .int .u16 ((Cf.t c 3 : Nat) : Int)], 126), (g8, #[.int .u8 ((Mo.m a : Nat) : Int), .int .u16 ((Mo.s a : Nat) : Int), .int .u8 ((Mo.c a : Nat) : Int), .int .u8 ((Mo.n a : Nat) : Int), .int .u8 ((Mo.d a : Nat) : Int)], 123)] by rw [hw7, hg8]; exact HQ6.out)
        rw [← hw7, ← hg8]
        clear hw7 hg8 HQ6
        have c0 : w7.cell? ⟨g2, 0, none⟩ = some (.int .u8 ((k : Nat) : Int)) := by
          have h : w7.cell? ⟨g2, 0, none⟩ = some (.int .u8 ((a.m : Nat) : Int)) := cell_of_row _ _ 0 _ _ _ (HQ7.out.of 0 rfl)
          rw [HM.out] at h
          exact h
        have c3 : w7.cell? ⟨g2, 3, none⟩ = some (.int .u8 ((a.n : Nat) : Int)) := cell_of_row _ _ 3 _ _ _ (HQ7.out.of 0 rfl)
        have d1 : w7.cell? ⟨g3, 1, none⟩ = some (.int .u8 ((c.seen : Nat) : Int)) := cell_of_row _ _ 1 _ _ _ (HQ7.out.of 1 rfl)
        skip
        have c1 : w7.cell? ⟨g2, 1, none⟩ = some (.int .u16 ((a.s : Nat) : Int)) := cell_of_row _ _ 1 _ _ _ (HQ7.out.of 0 rfl)
        have c2 : w7.cell? ⟨g2, 2, none⟩ = some (.int .u8 ((a.c : Nat) : Int)) := cell_of_row _ _ 2 _ _ _ (HQ7.out.of 0 rfl)
        have c4 : w7.cell? ⟨g2, 4, none⟩ = some (.int .u8 ((a.d : Nat) : Int)) := cell_of_row _ _ 4 _ _ _ (HQ7.out.of 0 rfl)
        have x0 : w7.cell? ⟨g8, 0, none⟩ = some (.int .u8 ((k : Nat) : Int)) := by
          have h : w7.cell? ⟨g8, 0, none⟩ = some (.int .u8 ((a.m : Nat) : Int)) := cell_of_row _ _ 0 _ _ _ (HQ7.out.of 2 rfl)
          rw [HM.out] at h
          exact h
        have x1 : w7.cell? ⟨g8, 1, none⟩ = some (.int .u16 ((a.s : Nat) : Int)) := cell_of_row _ _ 1 _ _ _ (HQ7.out.of 2 rfl)
        have x2 : w7.cell? ⟨g8, 2, none⟩ = some (.int .u8 ((a.c : Nat) : Int)) := cell_of_row _ _ 2 _ _ _ (HQ7.out.of 2 rfl)
        have x3 : w7.cell? ⟨g8, 3, none⟩ = some (.int .u8 ((a.n : Nat) : Int)) := cell_of_row _ _ 3 _ _ _ (HQ7.out.of 2 rfl)
        have x4 : w7.cell? ⟨g8, 4, none⟩ = some (.int .u8 ((a.d : Nat) : Int)) := cell_of_row _ _ 4 _ _ _ (HQ7.out.of 2 rfl)
        have hne : ∀ w, (binOp .neq 123 (.agg #[.int .u8 ((k : Nat) : Int), .int .u16 ((a.s : Nat) : Int), .int .u8 ((a.c : Nat) : Int), .int .u8 ((a.n : Nat) : Int), .int .u8 ((a.d : Nat) : Int)]) (.agg #[.int .u8 ((k : Nat) : Int), .int .u16 ((a.s : Nat) : Int), .int .u8 ((a.c : Nat) : Int), .int .u8 ((a.n : Nat) : Int), .int .u8 ((a.d : Nat) : Int)])).run Try.prog w = .ok (.bool false) w := by
          have h := neqMo HA.out
          rw [HM.out] at h
          exact h
        skip
        go_wp2_with fail
        go_roundw
        case rel => exact ⟨k + 1, Nat.succ_pos _, by omega, by go_num, Bq.front (bs := [(g2, #[.int .u8 ((Mo.m a : Nat) : Int), .int .u16 ((Mo.s a : Nat) : Int), .int .u8 ((Mo.c a : Nat) : Int), .int .u8 ((Mo.n a : Nat) : Int), .int .u8 ((Mo.d a : Nat) : Int)], 123), (g3, #[.int .u8 ((Cf.calm c : Nat) : Int), .int .u8 ((Cf.seen c : Nat) : Int), .int .u8 ((Cf.lost c : Nat) : Int), .int .u16 ((Cf.t c 0 : Nat) : Int), .int .u16 ((Cf.t c 1 : Nat) : Int), .int .u16 ((Cf.t c 2 : Nat) : Int), .int .u16 ((Cf.t c 3 : Nat) : Int)], 126)]) (cs := [(g8, #[.int .u8 ((Mo.m a : Nat) : Int), .int .u16 ((Mo.s a : Nat) : Int), .int .u8 ((Mo.c a : Nat) : Int), .int .u8 ((Mo.n a : Nat) : Int), .int .u8 ((Mo.d a : Nat) : Int)], 123)]) HQ7.out⟩
        case measure => simp [intOf]; try omega
      · rw [ask_else c (by omega) h4 (by rw [HM.out]; exact hs)] at hAk
        rcases (by omega : (k = 1 ∧ am = 0) ∨ (k = 2 ∧ am = 1) ∨ (k = 2 ∧ am = 3) ∨ (k = 3 ∧ am = 2 ∧ c.seen ≤ a.n) ∨ (k = 1 ∧ am = 2) ∨ (k = 1 ∧ am = 3) ∨ (k = 2 ∧ am = 0) ∨ (k = 3 ∧ am = 0) ∨ (k = 3 ∧ am = 1) ∨ (k = 3 ∧ am = 2 ∧ a.n < c.seen)) with ⟨rfl, rfl⟩ | ⟨rfl, rfl⟩ | ⟨rfl, rfl⟩ | ⟨rfl, rfl, g1⟩ | ⟨rfl, rfl⟩ | ⟨rfl, rfl⟩ | ⟨rfl, rfl⟩ | ⟨rfl, rfl⟩ | ⟨rfl, rfl⟩ | ⟨rfl, rfl, g1⟩
        · rw [show decide (mayM a c _) = true from decide_eq_true (HMAY.out.2 (by omega)), if_pos rfl] at hAk
          have HK := Lib.hid (show ∀ w, Calls Try.prog 69 #[.agg #[.int .u8 ((Mo.m a : Nat) : Int), .int .u16 ((Mo.s a : Nat) : Int), .int .u8 ((Mo.c a : Nat) : Int), .int .u8 ((Mo.n a : Nat) : Int), .int .u8 ((Mo.d a : Nat) : Int)], .agg #[.int .u8 ((Cf.calm c : Nat) : Int), .int .u8 ((Cf.seen c : Nat) : Int), .int .u8 ((Cf.lost c : Nat) : Int), .int .u16 ((Cf.t c 0 : Nat) : Int), .int .u16 ((Cf.t c 1 : Nat) : Int), .int .u16 ((Cf.t c 2 : Nat) : Int), .int .u16 ((Cf.t c 3 : Nat) : Int)], .int .u8 ((1 : Nat) : Int)] w fun e w' => e = .returned (.tuple #[.agg #[.int .u8 1, .int .u16 0, .int .u8 0, .int .u8 0, .int .u8 0], .int .i64 0]) ∧ Below w.heap.size w w' from hAk)
          clear hAk
          skip
          have b0 := HQ.out.of 0 rfl
          have b1 := HQ.out.of 1 rfl
          clear h4 hk0
          (try clear hs)
          go_wp2_with (first | ((with_reducible show wpList _ _ _ (_ :: _) _ _); refine wpList_load_row rfl 123 _ rfl _ rfl _ _ _ _ b0 Try.underlying123 rfl (by exact size_mo) ?_; (try go_simp)) | ((with_reducible show wpList _ _ _ (_ :: _) _ _); refine wpList_load_row rfl 126 _ rfl _ rfl _ _ _ _ b1 Try.underlying126 rfl (by exact size_cf) ?_; (try go_simp)))
          refine (HK.out _).mono ?_
          rintro e w6 ⟨rfl, hb⟩
          have HQ6 := Lib.hid ((HQ.out.step hb).new #[.int .u8 1, .int .u16 0, .int .u8 0, .int .u8 0, .int .u8 0] 123)
          clear hb b0 b1 HQ
          go_upto_region 11 with ((with_reducible show wpList _ _ _ (_ :: _) _ _); refine wpList_store_row rfl 123 _ _ rfl _ _ rfl rfl _ _ (heap_alloc_new _ _) (by exact size_mo) (by rfl) (by simp [Value.oneCell']) ?_; rw [World.setRow_alloc_new])
          obtain ⟨w7, hw7⟩ : ∃ w1, w1 = w6.alloc (.cells #[.int .u8 1, .int .u16 0, .int .u8 0, .int .u8 0, .int .u8 0] 123) := ⟨_, rfl⟩
          obtain ⟨g8, hg8⟩ : ∃ g, g = w6.heap.size := ⟨_, rfl⟩
          have HQ7 := Lib.hid (show Bq w w7 [(g2, #[.int .u8 ((Mo.m a : Nat) : Int), .int .u16 ((Mo.s a : Nat) : Int), .int .u8 ((Mo.c a : Nat) : Int), .int .u8 ((Mo.n a : Nat) : Int), .int .u8 ((Mo.d a : Nat) : Int)], 123), (g3, #[.int .u8 ((Cf.calm c : Nat) : Int), .int .u8 ((Cf.seen c : Nat) : Int), .int .u8 ((Cf.lost c : Nat) : Int), .int .u16 ((Cf.t c 0 : Nat) : Int), .int .u16 ((Cf.t c 1 : Nat) : Int), .int .u16 ((Cf.t c 2 : Nat) : Int), .int .u16 ((Cf.t c 3 : Nat) : Int)], 126), (g8, #[.int .u8 1, .int .u16 0, .int .u8 0, .int .u8 0, .int .u8 0], 123)] by rw [hw7, hg8]; exact HQ6.out)
          rw [← hw7, ← hg8]
          clear hw7 hg8 HQ6
          have c0 : w7.cell? ⟨g2, 0, none⟩ = some (.int .u8 ((0 : Nat) : Int)) := by
            have h : w7.cell? ⟨g2, 0, none⟩ = some (.int .u8 ((a.m : Nat) : Int)) := cell_of_row _ _ 0 _ _ _ (HQ7.out.of 0 rfl)
            rw [HM.out] at h
            exact h
          have c3 : w7.cell? ⟨g2, 3, none⟩ = some (.int .u8 ((a.n : Nat) : Int)) := cell_of_row _ _ 3 _ _ _ (HQ7.out.of 0 rfl)
          have d1 : w7.cell? ⟨g3, 1, none⟩ = some (.int .u8 ((c.seen : Nat) : Int)) := cell_of_row _ _ 1 _ _ _ (HQ7.out.of 1 rfl)
          have x0 : w7.cell? ⟨g8, 0, none⟩ = some (.int .u8 1) := cell_of_row _ _ 0 _ _ _ (HQ7.out.of 2 rfl)
          skip
          go_wp2_with fail
          go_roundw
          case rel => exact ⟨1 + 1, Nat.succ_pos _, by omega, by go_num, Bq.front (bs := [(g2, #[.int .u8 ((Mo.m a : Nat) : Int), .int .u16 ((Mo.s a : Nat) : Int), .int .u8 ((Mo.c a : Nat) : Int), .int .u8 ((Mo.n a : Nat) : Int), .int .u8 ((Mo.d a : Nat) : Int)], 123), (g3, #[.int .u8 ((Cf.calm c : Nat) : Int), .int .u8 ((Cf.seen c : Nat) : Int), .int .u8 ((Cf.lost c : Nat) : Int), .int .u16 ((Cf.t c 0 : Nat) : Int), .int .u16 ((Cf.t c 1 : Nat) : Int), .int .u16 ((Cf.t c 2 : Nat) : Int), .int .u16 ((Cf.t c 3 : Nat) : Int)], 126)]) (cs := [(g8, #[.int .u8 1, .int .u16 0, .int .u8 0, .int .u8 0, .int .u8 0], 123)]) HQ7.out⟩
          case measure => simp [intOf]; try omega
        · rw [show decide (mayM a c _) = true from decide_eq_true (HMAY.out.2 (by omega)), if_pos rfl] at hAk
          have HK := Lib.hid (show ∀ w, Calls Try.prog 69 #[.agg #[.int .u8 ((Mo.m a : Nat) : Int), .int .u16 ((Mo.s a : Nat) : Int), .int .u8 ((Mo.c a : Nat) : Int), .int .u8 ((Mo.n a : Nat) : Int), .int .u8 ((Mo.d a : Nat) : Int)], .agg #[.int .u8 ((Cf.calm c : Nat) : Int), .int .u8 ((Cf.seen c : Nat) : Int), .int .u8 ((Cf.lost c : Nat) : Int), .int .u16 ((Cf.t c 0 : Nat) : Int), .int .u16 ((Cf.t c 1 : Nat) : Int), .int .u16 ((Cf.t c 2 : Nat) : Int), .int .u16 ((Cf.t c 3 : Nat) : Int)], .int .u8 ((2 : Nat) : Int)] w fun e w' => e = .returned (.tuple #[.agg #[.int .u8 2, .int .u16 0, .int .u8 0, .int .u8 0, .int .u8 0], .int .i64 0]) ∧ Below w.heap.size w w' from hAk)
          clear hAk
          skip
          have b0 := HQ.out.of 0 rfl
          have b1 := HQ.out.of 1 rfl
          clear h4 hk0
          (try clear hs)
          go_wp2_with (first | ((with_reducible show wpList _ _ _ (_ :: _) _ _); refine wpList_load_row rfl 123 _ rfl _ rfl _ _ _ _ b0 Try.underlying123 rfl (by exact size_mo) ?_; (try go_simp)) | ((with_reducible show wpList _ _ _ (_ :: _) _ _); refine wpList_load_row rfl 126 _ rfl _ rfl _ _ _ _ b1 Try.underlying126 rfl (by exact size_cf) ?_; (try go_simp)))
          refine (HK.out _).mono ?_
          rintro e w6 ⟨rfl, hb⟩
          have HQ6 := Lib.hid ((HQ.out.step hb).new #[.int .u8 2, .int .u16 0, .int .u8 0, .int .u8 0, .int .u8 0] 123)
          clear hb b0 b1 HQ
          go_upto_region 11 with ((with_reducible show wpList _ _ _ (_ :: _) _ _); refine wpList_store_row rfl 123 _ _ rfl _ _ rfl rfl _ _ (heap_alloc_new _ _) (by exact size_mo) (by rfl) (by simp [Value.oneCell']) ?_; rw [World.setRow_alloc_new])
          obtain ⟨w7, hw7⟩ : ∃ w1, w1 = w6.alloc (.cells #[.int .u8 2, .int .u16 0, .int .u8 0, .int .u8 0, .int .u8 0] 123) := ⟨_, rfl⟩
          obtain ⟨g8, hg8⟩ : ∃ g, g = w6.heap.size := ⟨_, rfl⟩
          have HQ7 := Lib.hid (show Bq w w7 [(g2, #[.int .u8 ((Mo.m a : Nat) : Int), .int .u16 ((Mo.s a : Nat) : Int), .int .u8 ((Mo.c a : Nat) : Int), .int .u8 ((Mo.n a : Nat) : Int), .int .u8 ((Mo.d a : Nat) : Int)], 123), (g3, #[.int .u8 ((Cf.calm c : Nat) : Int), .int .u8 ((Cf.seen c : Nat) : Int), .int .u8 ((Cf.lost c : Nat) : Int), .int .u16 ((Cf.t c 0 : Nat) : Int), .int .u16 ((Cf.t c 1 : Nat) : Int), .int .u16 ((Cf.t c 2 : Nat) : Int), .int .u16 ((Cf.t c 3 : Nat) : Int)], 126), (g8, #[.int .u8 2, .int .u16 0, .int .u8 0, .int .u8 0, .int .u8 0], 123)] by rw [hw7, hg8]; exact HQ6.out)
          rw [← hw7, ← hg8]
          clear hw7 hg8 HQ6
          have c0 : w7.cell? ⟨g2, 0, none⟩ = some (.int .u8 ((1 : Nat) : Int)) := by
            have h : w7.cell? ⟨g2, 0, none⟩ = some (.int .u8 ((a.m : Nat) : Int)) := cell_of_row _ _ 0 _ _ _ (HQ7.out.of 0 rfl)
            rw [HM.out] at h
            exact h
          have c3 : w7.cell? ⟨g2, 3, none⟩ = some (.int .u8 ((a.n : Nat) : Int)) := cell_of_row _ _ 3 _ _ _ (HQ7.out.of 0 rfl)
          have d1 : w7.cell? ⟨g3, 1, none⟩ = some (.int .u8 ((c.seen : Nat) : Int)) := cell_of_row _ _ 1 _ _ _ (HQ7.out.of 1 rfl)
          have x0 : w7.cell? ⟨g8, 0, none⟩ = some (.int .u8 2) := cell_of_row _ _ 0 _ _ _ (HQ7.out.of 2 rfl)
          skip
          go_wp2_with fail
          go_roundw
          case rel => exact ⟨2 + 1, Nat.succ_pos _, by omega, by go_num, Bq.front (bs := [(g2, #[.int .u8 ((Mo.m a : Nat) : Int), .int .u16 ((Mo.s a : Nat) : Int), .int .u8 ((Mo.c a : Nat) : Int), .int .u8 ((Mo.n a : Nat) : Int), .int .u8 ((Mo.d a : Nat) : Int)], 123), (g3, #[.int .u8 ((Cf.calm c : Nat) : Int), .int .u8 ((Cf.seen c : Nat) : Int), .int .u8 ((Cf.lost c : Nat) : Int), .int .u16 ((Cf.t c 0 : Nat) : Int), .int .u16 ((Cf.t c 1 : Nat) : Int), .int .u16 ((Cf.t c 2 : Nat) : Int), .int .u16 ((Cf.t c 3 : Nat) : Int)], 126)]) (cs := [(g8, #[.int .u8 2, .int .u16 0, .int .u8 0, .int .u8 0, .int .u8 0], 123)]) HQ7.out⟩
          case measure => simp [intOf]; try omega
        · rw [show decide (mayM a c _) = true from decide_eq_true (HMAY.out.2 (by omega)), if_pos rfl] at hAk
          have HK := Lib.hid (show ∀ w, Calls Try.prog 69 #[.agg #[.int .u8 ((Mo.m a : Nat) : Int), .int .u16 ((Mo.s a : Nat) : Int), .int .u8 ((Mo.c a : Nat) : Int), .int .u8 ((Mo.n a : Nat) : Int), .int .u8 ((Mo.d a : Nat) : Int)], .agg #[.int .u8 ((Cf.calm c : Nat) : Int), .int .u8 ((Cf.seen c : Nat) : Int), .int .u8 ((Cf.lost c : Nat) : Int), .int .u16 ((Cf.t c 0 : Nat) : Int), .int .u16 ((Cf.t c 1 : Nat) : Int), .int .u16 ((Cf.t c 2 : Nat) : Int), .int .u16 ((Cf.t c 3 : Nat) : Int)], .int .u8 ((2 : Nat) : Int)] w fun e w' => e = .returned (.tuple #[.agg #[.int .u8 2, .int .u16 0, .int .u8 0, .int .u8 0, .int .u8 0], .int .i64 0]) ∧ Below w.heap.size w w' from hAk)
          clear hAk
          skip
          have b0 := HQ.out.of 0 rfl
          have b1 := HQ.out.of 1 rfl
          clear h4 hk0
          (try clear hs)
          go_wp2_with (first | ((with_reducible show wpList _ _ _ (_ :: _) _ _); refine wpList_load_row rfl 123 _ rfl _ rfl _ _ _ _ b0 Try.underlying123 rfl (by exact size_mo) ?_; (try go_simp)) | ((with_reducible show wpList _ _ _ (_ :: _) _ _); refine wpList_load_row rfl 126 _ rfl _ rfl _ _ _ _ b1 Try.underlying126 rfl (by exact size_cf) ?_; (try go_simp)))
          refine (HK.out _).mono ?_
          rintro e w6 ⟨rfl, hb⟩
          have HQ6 := Lib.hid ((HQ.out.step hb).new #[.int .u8 2, .int .u16 0, .int .u8 0, .int .u8 0, .int .u8 0] 123)
          clear hb b0 b1 HQ
          go_upto_region 11 with ((with_reducible show wpList _ _ _ (_ :: _) _ _); refine wpList_store_row rfl 123 _ _ rfl _ _ rfl rfl _ _ (heap_alloc_new _ _) (by exact size_mo) (by rfl) (by simp [Value.oneCell']) ?_; rw [World.setRow_alloc_new])
          obtain ⟨w7, hw7⟩ : ∃ w1, w1 = w6.alloc (.cells #[.int .u8 2, .int .u16 0, .int .u8 0, .int .u8 0, .int .u8 0] 123) := ⟨_, rfl⟩
          obtain ⟨g8, hg8⟩ : ∃ g, g = w6.heap.size := ⟨_, rfl⟩
          have HQ7 := Lib.hid (show Bq w w7 [(g2, #[.int .u8 ((Mo.m a : Nat) : Int), .int .u16 ((Mo.s a : Nat) : Int), .int .u8 ((Mo.c a : Nat) : Int), .int .u8 ((Mo.n a : Nat) : Int), .int .u8 ((Mo.d a : Nat) : Int)], 123), (g3, #[.int .u8 ((Cf.calm c : Nat) : Int), .int .u8 ((Cf.seen c : Nat) : Int), .int .u8 ((Cf.lost c : Nat) : Int), .int .u16 ((Cf.t c 0 : Nat) : Int), .int .u16 ((Cf.t c 1 : Nat) : Int), .int .u16 ((Cf.t c 2 : Nat) : Int), .int .u16 ((Cf.t c 3 : Nat) : Int)], 126), (g8, #[.int .u8 2, .int .u16 0, .int .u8 0, .int .u8 0, .int .u8 0], 123)] by rw [hw7, hg8]; exact HQ6.out)
          rw [← hw7, ← hg8]
          clear hw7 hg8 HQ6
          have c0 : w7.cell? ⟨g2, 0, none⟩ = some (.int .u8 ((3 : Nat) : Int)) := by
            have h : w7.cell? ⟨g2, 0, none⟩ = some (.int .u8 ((a.m : Nat) : Int)) := cell_of_row _ _ 0 _ _ _ (HQ7.out.of 0 rfl)
            rw [HM.out] at h
            exact h
          have c3 : w7.cell? ⟨g2, 3, none⟩ = some (.int .u8 ((a.n : Nat) : Int)) := cell_of_row _ _ 3 _ _ _ (HQ7.out.of 0 rfl)
          have d1 : w7.cell? ⟨g3, 1, none⟩ = some (.int .u8 ((c.seen : Nat) : Int)) := cell_of_row _ _ 1 _ _ _ (HQ7.out.of 1 rfl)
          have x0 : w7.cell? ⟨g8, 0, none⟩ = some (.int .u8 2) := cell_of_row _ _ 0 _ _ _ (HQ7.out.of 2 rfl)
          skip
          go_wp2_with fail
          go_roundw
          case rel => exact ⟨2 + 1, Nat.succ_pos _, by omega, by go_num, Bq.front (bs := [(g2, #[.int .u8 ((Mo.m a : Nat) : Int), .int .u16 ((Mo.s a : Nat) : Int), .int .u8 ((Mo.c a : Nat) : Int), .int .u8 ((Mo.n a : Nat) : Int), .int .u8 ((Mo.d a : Nat) : Int)], 123), (g3, #[.int .u8 ((Cf.calm c : Nat) : Int), .int .u8 ((Cf.seen c : Nat) : Int), .int .u8 ((Cf.lost c : Nat) : Int), .int .u16 ((Cf.t c 0 : Nat) : Int), .int .u16 ((Cf.t c 1 : Nat) : Int), .int .u16 ((Cf.t c 2 : Nat) : Int), .int .u16 ((Cf.t c 3 : Nat) : Int)], 126)]) (cs := [(g8, #[.int .u8 2, .int .u16 0, .int .u8 0, .int .u8 0, .int .u8 0], 123)]) HQ7.out⟩
          case measure => simp [intOf]; try omega
        · rw [show decide (mayM a c _) = true from decide_eq_true (HMAY.out.2 (by omega)), if_pos rfl] at hAk
          have HK := Lib.hid (show ∀ w, Calls Try.prog 69 #[.agg #[.int .u8 ((Mo.m a : Nat) : Int), .int .u16 ((Mo.s a : Nat) : Int), .int .u8 ((Mo.c a : Nat) : Int), .int .u8 ((Mo.n a : Nat) : Int), .int .u8 ((Mo.d a : Nat) : Int)], .agg #[.int .u8 ((Cf.calm c : Nat) : Int), .int .u8 ((Cf.seen c : Nat) : Int), .int .u8 ((Cf.lost c : Nat) : Int), .int .u16 ((Cf.t c 0 : Nat) : Int), .int .u16 ((Cf.t c 1 : Nat) : Int), .int .u16 ((Cf.t c 2 : Nat) : Int), .int .u16 ((Cf.t c 3 : Nat) : Int)], .int .u8 ((3 : Nat) : Int)] w fun e w' => e = .returned (.tuple #[.agg #[.int .u8 3, .int .u16 0, .int .u8 0, .int .u8 0, .int .u8 0], .int .i64 0]) ∧ Below w.heap.size w w' from hAk)
          clear hAk
          skip
          have b0 := HQ.out.of 0 rfl
          have b1 := HQ.out.of 1 rfl
          clear h4 hk0
          (try clear hs)
          go_wp2_with (first | ((with_reducible show wpList _ _ _ (_ :: _) _ _); refine wpList_load_row rfl 123 _ rfl _ rfl _ _ _ _ b0 Try.underlying123 rfl (by exact size_mo) ?_; (try go_simp)) | ((with_reducible show wpList _ _ _ (_ :: _) _ _); refine wpList_load_row rfl 126 _ rfl _ rfl _ _ _ _ b1 Try.underlying126 rfl (by exact size_cf) ?_; (try go_simp)))
          refine (HK.out _).mono ?_
          rintro e w6 ⟨rfl, hb⟩
          have HQ6 := Lib.hid ((HQ.out.step hb).new #[.int .u8 3, .int .u16 0, .int .u8 0, .int .u8 0, .int .u8 0] 123)
          clear hb b0 b1 HQ
          go_upto_region 11 with ((with_reducible show wpList _ _ _ (_ :: _) _ _); refine wpList_store_row rfl 123 _ _ rfl _ _ rfl rfl _ _ (heap_alloc_new _ _) (by exact size_mo) (by rfl) (by simp [Value.oneCell']) ?_; rw [World.setRow_alloc_new])
          obtain ⟨w7, hw7⟩ : ∃ w1, w1 = w6.alloc (.cells #[.int .u8 3, .int .u16 0, .int .u8 0, .int .u8 0, .int .u8 0] 123) := ⟨_, rfl⟩
          obtain ⟨g8, hg8⟩ : ∃ g, g = w6.heap.size := ⟨_, rfl⟩
          have HQ7 := Lib.hid (show Bq w w7 [(g2, #[.int .u8 ((Mo.m a : Nat) : Int), .int .u16 ((Mo.s a : Nat) : Int), .int .u8 ((Mo.c a : Nat) : Int), .int .u8 ((Mo.n a : Nat) : Int), .int .u8 ((Mo.d a : Nat) : Int)], 123), (g3, #[.int .u8 ((Cf.calm c : Nat) : Int), .int .u8 ((Cf.seen c : Nat) : Int), .int .u8 ((Cf.lost c : Nat) : Int), .int .u16 ((Cf.t c 0 : Nat) : Int), .int .u16 ((Cf.t c 1 : Nat) : Int), .int .u16 ((Cf.t c 2 : Nat) : Int), .int .u16 ((Cf.t c 3 : Nat) : Int)], 126), (g8, #[.int .u8 3, .int .u16 0, .int .u8 0, .int .u8 0, .int .u8 0], 123)] by rw [hw7, hg8]; exact HQ6.out)
          rw [← hw7, ← hg8]
          clear hw7 hg8 HQ6
          have c0 : w7.cell? ⟨g2, 0, none⟩ = some (.int .u8 ((2 : Nat) : Int)) := by
            have h : w7.cell? ⟨g2, 0, none⟩ = some (.int .u8 ((a.m : Nat) : Int)) := cell_of_row _ _ 0 _ _ _ (HQ7.out.of 0 rfl)
            rw [HM.out] at h
            exact h
          have c3 : w7.cell? ⟨g2, 3, none⟩ = some (.int .u8 ((a.n : Nat) : Int)) := cell_of_row _ _ 3 _ _ _ (HQ7.out.of 0 rfl)
          have d1 : w7.cell? ⟨g3, 1, none⟩ = some (.int .u8 ((c.seen : Nat) : Int)) := cell_of_row _ _ 1 _ _ _ (HQ7.out.of 1 rfl)
          have x0 : w7.cell? ⟨g8, 0, none⟩ = some (.int .u8 3) := cell_of_row _ _ 0 _ _ _ (HQ7.out.of 2 rfl)
          skip
          go_wp2_with fail
          go_roundw
          case rel => exact ⟨3 + 1, Nat.succ_pos _, by omega, by go_num, Bq.front (bs := [(g2, #[.int .u8 ((Mo.m a : Nat) : Int), .int .u16 ((Mo.s a : Nat) : Int), .int .u8 ((Mo.c a : Nat) : Int), .int .u8 ((Mo.n a : Nat) : Int), .int .u8 ((Mo.d a : Nat) : Int)], 123), (g3, #[.int .u8 ((Cf.calm c : Nat) : Int), .int .u8 ((Cf.seen c : Nat) : Int), .int .u8 ((Cf.lost c : Nat) : Int), .int .u16 ((Cf.t c 0 : Nat) : Int), .int .u16 ((Cf.t c 1 : Nat) : Int), .int .u16 ((Cf.t c 2 : Nat) : Int), .int .u16 ((Cf.t c 3 : Nat) : Int)], 126)]) (cs := [(g8, #[.int .u8 3, .int .u16 0, .int .u8 0, .int .u8 0, .int .u8 0], 123)]) HQ7.out⟩
          case measure => simp [intOf]; try omega
        · skip
          rw [show decide (mayM a c _) = false from decide_eq_false (fun g => by have := HMAY.out.1 g; omega), if_neg (by decide)] at hAk
          have HK := Lib.hid hAk
          clear hAk
          skip
          have b0 := HQ.out.of 0 rfl
          have b1 := HQ.out.of 1 rfl
          clear h4 hk0
          (try clear hs)
          go_wp2_with (first | ((with_reducible show wpList _ _ _ (_ :: _) _ _); refine wpList_load_row rfl 123 _ rfl _ rfl _ _ _ _ b0 Try.underlying123 rfl (by exact size_mo) ?_; (try go_simp)) | ((with_reducible show wpList _ _ _ (_ :: _) _ _); refine wpList_load_row rfl 126 _ rfl _ rfl _ _ _ _ b1 Try.underlying126 rfl (by exact size_cf) ?_; (try go_simp)))
          refine (HK.out _).mono ?_
          rintro e w6 ⟨rfl, hb⟩
          have HQ6 := Lib.hid ((HQ.out.step hb).new #[.int .u8 ((Mo.m a : Nat) : Int), .int .u16 ((Mo.s a : Nat) : Int), .int .u8 ((Mo.c a : Nat) : Int), .int .u8 ((Mo.n a : Nat) : Int), .int .u8 ((Mo.d a : Nat) : Int)] 123)
          clear hb b0 b1 HQ
          go_upto_region 11 with ((with_reducible show wpList _ _ _ (_ :: _) _ _); refine wpList_store_row rfl 123 _ _ rfl _ _ rfl rfl _ _ (heap_alloc_new _ _) (by exact size_mo) (by rfl) (by simp [Value.oneCell']) ?_; rw [World.setRow_alloc_new])
          obtain ⟨w7, hw7⟩ : ∃ w1, w1 = w6.alloc (.cells #[.int .u8 ((Mo.m a : Nat) : Int), .int .u16 ((Mo.s a : Nat) : Int), .int .u8 ((Mo.c a : Nat) : Int), .int .u8 ((Mo.n a : Nat) : Int), .int .u8 ((Mo.d a : Nat) : Int)] 123) := ⟨_, rfl⟩
          obtain ⟨g8, hg8⟩ : ∃ g, g = w6.heap.size := ⟨_, rfl⟩
          have HQ7 := Lib.hid (show Bq w w7 [(g2, #[.int .u8 ((Mo.m a : Nat) : Int), .int .u16 ((Mo.s a : Nat) : Int), .int .u8 ((Mo.c a : Nat) : Int), .int .u8 ((Mo.n a : Nat) : Int), .int .u8 ((Mo.d a : Nat) : Int)], 123), (g3, #[.int .u8 ((Cf.calm c : Nat) : Int), .int .u8 ((Cf.seen c : Nat) : Int), .int .u8 ((Cf.lost c : Nat) : Int), .int .u16 ((Cf.t c 0 : Nat) : Int), .int .u16 ((Cf.t c 1 : Nat) : Int), .int .u16 ((Cf.t c 2 : Nat) : Int), .int .u16 ((Cf.t c 3 : Nat) : Int)], 126), (g8, #[.int .u8 ((Mo.m a : Nat) : Int), .int .u16 ((Mo.s a : Nat) : Int), .int .u8 ((Mo.c a : Nat) : Int), .int .u8 ((Mo.n a : Nat) : Int), .int .u8 ((Mo.d a : Nat) : Int)], 123)] by rw [hw7, hg8]; exact HQ6.out)
          rw [← hw7, ← hg8]
          clear hw7 hg8 HQ6
          have c0 : w7.cell? ⟨g2, 0, none⟩ = some (.int .u8 ((2 : Nat) : Int)) := by
            have h : w7.cell? ⟨g2, 0, none⟩ = some (.int .u8 ((a.m : Nat) : Int)) := cell_of_row _ _ 0 _ _ _ (HQ7.out.of 0 rfl)
            rw [HM.out] at h
            exact h
          have c3 : w7.cell? ⟨g2, 3, none⟩ = some (.int .u8 ((a.n : Nat) : Int)) := cell_of_row _ _ 3 _ _ _ (HQ7.out.of 0 rfl)
          have d1 : w7.cell? ⟨g3, 1, none⟩ = some (.int .u8 ((c.seen : Nat) : Int)) := cell_of_row _ _ 1 _ _ _ (HQ7.out.of 1 rfl)
          skip
          have c1 : w7.cell? ⟨g2, 1, none⟩ = some (.int .u16 ((a.s : Nat) : Int)) := cell_of_row _ _ 1 _ _ _ (HQ7.out.of 0 rfl)
          have c2 : w7.cell? ⟨g2, 2, none⟩ = some (.int .u8 ((a.c : Nat) : Int)) := cell_of_row _ _ 2 _ _ _ (HQ7.out.of 0 rfl)
          have c4 : w7.cell? ⟨g2, 4, none⟩ = some (.int .u8 ((a.d : Nat) : Int)) := cell_of_row _ _ 4 _ _ _ (HQ7.out.of 0 rfl)
          have x0 : w7.cell? ⟨g8, 0, none⟩ = some (.int .u8 ((2 : Nat) : Int)) := by
            have h : w7.cell? ⟨g8, 0, none⟩ = some (.int .u8 ((a.m : Nat) : Int)) := cell_of_row _ _ 0 _ _ _ (HQ7.out.of 2 rfl)
            rw [HM.out] at h
            exact h
          have x1 : w7.cell? ⟨g8, 1, none⟩ = some (.int .u16 ((a.s : Nat) : Int)) := cell_of_row _ _ 1 _ _ _ (HQ7.out.of 2 rfl)
          have x2 : w7.cell? ⟨g8, 2, none⟩ = some (.int .u8 ((a.c : Nat) : Int)) := cell_of_row _ _ 2 _ _ _ (HQ7.out.of 2 rfl)
          have x3 : w7.cell? ⟨g8, 3, none⟩ = some (.int .u8 ((a.n : Nat) : Int)) := cell_of_row _ _ 3 _ _ _ (HQ7.out.of 2 rfl)
          have x4 : w7.cell? ⟨g8, 4, none⟩ = some (.int .u8 ((a.d : Nat) : Int)) := cell_of_row _ _ 4 _ _ _ (HQ7.out.of 2 rfl)
          have hne : ∀ w, (binOp .neq 123 (.agg #[.int .u8 ((2 : Nat) : Int), .int .u16 ((a.s : Nat) : Int), .int .u8 ((a.c : Nat) : Int), .int .u8 ((a.n : Nat) : Int), .int .u8 ((a.d : Nat) : Int)]) (.agg #[.int .u8 ((2 : Nat) : Int), .int .u16 ((a.s : Nat) : Int), .int .u8 ((a.c : Nat) : Int), .int .u8 ((a.n : Nat) : Int), .int .u8 ((a.d : Nat) : Int)])).run Try.prog w = .ok (.bool false) w := by
            have h := neqMo HA.out
            rw [HM.out] at h
            exact h
          skip
          go_wp2_with fail
          go_roundw
          case rel => exact ⟨1 + 1, Nat.succ_pos _, by omega, by go_num, Bq.front (bs := [(g2, #[.int .u8 ((Mo.m a : Nat) : Int), .int .u16 ((Mo.s a : Nat) : Int), .int .u8 ((Mo.c a : Nat) : Int), .int .u8 ((Mo.n a : Nat) : Int), .int .u8 ((Mo.d a : Nat) : Int)], 123), (g3, #[.int .u8 ((Cf.calm c : Nat) : Int), .int .u8 ((Cf.seen c : Nat) : Int), .int .u8 ((Cf.lost c : Nat) : Int), .int .u16 ((Cf.t c 0 : Nat) : Int), .int .u16 ((Cf.t c 1 : Nat) : Int), .int .u16 ((Cf.t c 2 : Nat) : Int), .int .u16 ((Cf.t c 3 : Nat) : Int)], 126)]) (cs := [(g8, #[.int .u8 ((Mo.m a : Nat) : Int), .int .u16 ((Mo.s a : Nat) : Int), .int .u8 ((Mo.c a : Nat) : Int), .int .u8 ((Mo.n a : Nat) : Int), .int .u8 ((Mo.d a : Nat) : Int)], 123)]) HQ7.out⟩
          case measure => simp [intOf]; try omega
        · skip
          rw [show decide (mayM a c _) = false from decide_eq_false (fun g => by have := HMAY.out.1 g; omega), if_neg (by decide)] at hAk
          have HK := Lib.hid hAk
          clear hAk
          skip
          have b0 := HQ.out.of 0 rfl
          have b1 := HQ.out.of 1 rfl
          clear h4 hk0
          (try clear hs)
          go_wp2_with (first | ((with_reducible show wpList _ _ _ (_ :: _) _ _); refine wpList_load_row rfl 123 _ rfl _ rfl _ _ _ _ b0 Try.underlying123 rfl (by exact size_mo) ?_; (try go_simp)) | ((with_reducible show wpList _ _ _ (_ :: _) _ _); refine wpList_load_row rfl 126 _ rfl _ rfl _ _ _ _ b1 Try.underlying126 rfl (by exact size_cf) ?_; (try go_simp)))
          refine (HK.out _).mono ?_
          rintro e w6 ⟨rfl, hb⟩
          have HQ6 := Lib.hid ((HQ.out.step hb).new #[.int .u8 ((Mo.m a : Nat) : Int), .int .u16 ((Mo.s a : Nat) : Int), .int .u8 ((Mo.c a : Nat) : Int), .int .u8 ((Mo.n a : Nat) : Int), .int .u8 ((Mo.d a : Nat) : Int)] 123)
          clear hb b0 b1 HQ
          go_upto_region 11 with ((with_reducible show wpList _ _ _ (_ :: _) _ _); refine wpList_store_row rfl 123 _ _ rfl _ _ rfl rfl _ _ (heap_alloc_new _ _) (by exact size_mo) (by rfl) (by simp [Value.oneCell']) ?_; rw [World.setRow_alloc_new])
          obtain ⟨w7, hw7⟩ : ∃ w1, w1 = w6.alloc (.cells #[.int .u8 ((Mo.m a : Nat) : Int), .int .u16 ((Mo.s a : Nat) : Int), .int .u8 ((Mo.c a : Nat) : Int), .int .u8 ((Mo.n a : Nat) : Int), .int .u8 ((Mo.d a : Nat) : Int)] 123) := ⟨_, rfl⟩
          obtain ⟨g8, hg8⟩ : ∃ g, g = w6.heap.size := ⟨_, rfl⟩
          have HQ7 := Lib.hid (show Bq w w7 [(g2, #[.int .u8 ((Mo.m a : Nat) : Int), .int .u16 ((Mo.s a : Nat) : Int), .int .u8 ((Mo.c a : Nat) : Int), .int .u8 ((Mo.n a : Nat) : Int), .int .u8 ((Mo.d a : Nat) : Int)], 123), (g3, #[.int .u8 ((Cf.calm c : Nat) : Int), .int .u8 ((Cf.seen c : Nat) : Int), .int .u8 ((Cf.lost c : Nat) : Int), .int .u16 ((Cf.t c 0 : Nat) : Int), .int .u16 ((Cf.t c 1 : Nat) : Int), .int .u16 ((Cf.t c 2 : Nat) : Int), .int .u16 ((Cf.t c 3 : Nat) : Int)], 126), (g8, #[.int .u8 ((Mo.m a : Nat) : Int), .int .u16 ((Mo.s a : Nat) : Int), .int .u8 ((Mo.c a : Nat) : Int), .int .u8 ((Mo.n a : Nat) : Int), .int .u8 ((Mo.d a : Nat) : Int)], 123)] by rw [hw7, hg8]; exact HQ6.out)
          rw [← hw7, ← hg8]
          clear hw7 hg8 HQ6
          have c0 : w7.cell? ⟨g2, 0, none⟩ = some (.int .u8 ((3 : Nat) : Int)) := by
            have h : w7.cell? ⟨g2, 0, none⟩ = some (.int .u8 ((a.m : Nat) : Int)) := cell_of_row _ _ 0 _ _ _ (HQ7.out.of 0 rfl)
            rw [HM.out] at h
            exact h
          have c3 : w7.cell? ⟨g2, 3, none⟩ = some (.int .u8 ((a.n : Nat) : Int)) := cell_of_row _ _ 3 _ _ _ (HQ7.out.of 0 rfl)
          have d1 : w7.cell? ⟨g3, 1, none⟩ = some (.int .u8 ((c.seen : Nat) : Int)) := cell_of_row _ _ 1 _ _ _ (HQ7.out.of 1 rfl)
          skip
          have c1 : w7.cell? ⟨g2, 1, none⟩ = some (.int .u16 ((a.s : Nat) : Int)) := cell_of_row _ _ 1 _ _ _ (HQ7.out.of 0 rfl)
          have c2 : w7.cell? ⟨g2, 2, none⟩ = some (.int .u8 ((a.c : Nat) : Int)) := cell_of_row _ _ 2 _ _ _ (HQ7.out.of 0 rfl)
          have c4 : w7.cell? ⟨g2, 4, none⟩ = some (.int .u8 ((a.d : Nat) : Int)) := cell_of_row _ _ 4 _ _ _ (HQ7.out.of 0 rfl)
          have x0 : w7.cell? ⟨g8, 0, none⟩ = some (.int .u8 ((3 : Nat) : Int)) := by
            have h : w7.cell? ⟨g8, 0, none⟩ = some (.int .u8 ((a.m : Nat) : Int)) := cell_of_row _ _ 0 _ _ _ (HQ7.out.of 2 rfl)
            rw [HM.out] at h
            exact h
          have x1 : w7.cell? ⟨g8, 1, none⟩ = some (.int .u16 ((a.s : Nat) : Int)) := cell_of_row _ _ 1 _ _ _ (HQ7.out.of 2 rfl)
          have x2 : w7.cell? ⟨g8, 2, none⟩ = some (.int .u8 ((a.c : Nat) : Int)) := cell_of_row _ _ 2 _ _ _ (HQ7.out.of 2 rfl)
          have x3 : w7.cell? ⟨g8, 3, none⟩ = some (.int .u8 ((a.n : Nat) : Int)) := cell_of_row _ _ 3 _ _ _ (HQ7.out.of 2 rfl)
          have x4 : w7.cell? ⟨g8, 4, none⟩ = some (.int .u8 ((a.d : Nat) : Int)) := cell_of_row _ _ 4 _ _ _ (HQ7.out.of 2 rfl)
          have hne : ∀ w, (binOp .neq 123 (.agg #[.int .u8 ((3 : Nat) : Int), .int .u16 ((a.s : Nat) : Int), .int .u8 ((a.c : Nat) : Int), .int .u8 ((a.n : Nat) : Int), .int .u8 ((a.d : Nat) : Int)]) (.agg #[.int .u8 ((3 : Nat) : Int), .int .u16 ((a.s : Nat) : Int), .int .u8 ((a.c : Nat) : Int), .int .u8 ((a.n : Nat) : Int), .int .u8 ((a.d : Nat) : Int)])).run Try.prog w = .ok (.bool false) w := by
            have h := neqMo HA.out
            rw [HM.out] at h
            exact h
          skip
          go_wp2_with fail
          go_roundw
          case rel => exact ⟨1 + 1, Nat.succ_pos _, by omega, by go_num, Bq.front (bs := [(g2, #[.int .u8 ((Mo.m a : Nat) : Int), .int .u16 ((Mo.s a : Nat) : Int), .int .u8 ((Mo.c a : Nat) : Int), .int .u8 ((Mo.n a : Nat) : Int), .int .u8 ((Mo.d a : Nat) : Int)], 123), (g3, #[.int .u8 ((Cf.calm c : Nat) : Int), .int .u8 ((Cf.seen c : Nat) : Int), .int .u8 ((Cf.lost c : Nat) : Int), .int .u16 ((Cf.t c 0 : Nat) : Int), .int .u16 ((Cf.t c 1 : Nat) : Int), .int .u16 ((Cf.t c 2 : Nat) : Int), .int .u16 ((Cf.t c 3 : Nat) : Int)], 126)]) (cs := [(g8, #[.int .u8 ((Mo.m a : Nat) : Int), .int .u16 ((Mo.s a : Nat) : Int), .int .u8 ((Mo.c a : Nat) : Int), .int .u8 ((Mo.n a : Nat) : Int), .int .u8 ((Mo.d a : Nat) : Int)], 123)]) HQ7.out⟩
          case measure => simp [intOf]; try omega
        · skip
          rw [show decide (mayM a c _) = false from decide_eq_false (fun g => by have := HMAY.out.1 g; omega), if_neg (by decide)] at hAk
          have HK := Lib.hid hAk
          clear hAk
          skip
          have b0 := HQ.out.of 0 rfl
          have b1 := HQ.out.of 1 rfl
          clear h4 hk0
          (try clear hs)
          go_wp2_with (first | ((with_reducible show wpList _ _ _ (_ :: _) _ _); refine wpList_load_row rfl 123 _ rfl _ rfl _ _ _ _ b0 Try.underlying123 rfl (by exact size_mo) ?_; (try go_simp)) | ((with_reducible show wpList _ _ _ (_ :: _) _ _); refine wpList_load_row rfl 126 _ rfl _ rfl _ _ _ _ b1 Try.underlying126 rfl (by exact size_cf) ?_; (try go_simp)))
          refine (HK.out _).mono ?_
          rintro e w6 ⟨rfl, hb⟩
          have HQ6 := Lib.hid ((HQ.out.step hb).new #[.int .u8 ((Mo.m a : Nat) : Int), .int .u16 ((Mo.s a : Nat) : Int), .int .u8 ((Mo.c a : Nat) : Int), .int .u8 ((Mo.n a : Nat) : Int), .int .u8 ((Mo.d a : Nat) : Int)] 123)
          clear hb b0 b1 HQ
          go_upto_region 11 with ((with_reducible show wpList _ _ _ (_ :: _) _ _); refine wpList_store_row rfl 123 _ _ rfl _ _ rfl rfl _ _ (heap_alloc_new _ _) (by exact size_mo) (by rfl) (by simp [Value.oneCell']) ?_; rw [World.setRow_alloc_new])
          obtain ⟨w7, hw7⟩ : ∃ w1, w1 = w6.alloc (.cells #[.int .u8 ((Mo.m a : Nat) : Int), .int .u16 ((Mo.s a : Nat) : Int), .int .u8 ((Mo.c a : Nat) : Int), .int .u8 ((Mo.n a : Nat) : Int), .int .u8 ((Mo.d a : Nat) : Int)] 123) := ⟨_, rfl⟩
          obtain ⟨g8, hg8⟩ : ∃ g, g = w6.heap.size := ⟨_, rfl⟩
          have HQ7 := Lib.hid (show Bq w w7 [(g2, #[.int .u8 ((Mo.m a : Nat) : Int), .int .u16 ((Mo.s a : Nat) : Int), .int .u8 ((Mo.c a : Nat) : Int), .int .u8 ((Mo.n a : Nat) : Int), .int .u8 ((Mo.d a : Nat) : Int)], 123), (g3, #[.int .u8 ((Cf.calm c : Nat) : Int), .int .u8 ((Cf.seen c : Nat) : Int), .int .u8 ((Cf.lost c : Nat) : Int), .int .u16 ((Cf.t c 0 : Nat) : Int), .int .u16 ((Cf.t c 1 : Nat) : Int), .int .u16 ((Cf.t c 2 : Nat) : Int), .int .u16 ((Cf.t c 3 : Nat) : Int)], 126), (g8, #[.int .u8 ((Mo.m a : Nat) : Int), .int .u16 ((Mo.s a : Nat) : Int), .int .u8 ((Mo.c a : Nat) : Int), .int .u8 ((Mo.n a : Nat) : Int), .int .u8 ((Mo.d a : Nat) : Int)], 123)] by rw [hw7, hg8]; exact HQ6.out)
          rw [← hw7, ← hg8]
          clear hw7 hg8 HQ6
          have c0 : w7.cell? ⟨g2, 0, none⟩ = some (.int .u8 ((0 : Nat) : Int)) := by
            have h : w7.cell? ⟨g2, 0, none⟩ = some (.int .u8 ((a.m : Nat) : Int)) := cell_of_row _ _ 0 _ _ _ (HQ7.out.of 0 rfl)
            rw [HM.out] at h
            exact h
          have c3 : w7.cell? ⟨g2, 3, none⟩ = some (.int .u8 ((a.n : Nat) : Int)) := cell_of_row _ _ 3 _ _ _ (HQ7.out.of 0 rfl)
          have d1 : w7.cell? ⟨g3, 1, none⟩ = some (.int .u8 ((c.seen : Nat) : Int)) := cell_of_row _ _ 1 _ _ _ (HQ7.out.of 1 rfl)
          skip
          have c1 : w7.cell? ⟨g2, 1, none⟩ = some (.int .u16 ((a.s : Nat) : Int)) := cell_of_row _ _ 1 _ _ _ (HQ7.out.of 0 rfl)
          have c2 : w7.cell? ⟨g2, 2, none⟩ = some (.int .u8 ((a.c : Nat) : Int)) := cell_of_row _ _ 2 _ _ _ (HQ7.out.of 0 rfl)
          have c4 : w7.cell? ⟨g2, 4, none⟩ = some (.int .u8 ((a.d : Nat) : Int)) := cell_of_row _ _ 4 _ _ _ (HQ7.out.of 0 rfl)
          have x0 : w7.cell? ⟨g8, 0, none⟩ = some (.int .u8 ((0 : Nat) : Int)) := by
            have h : w7.cell? ⟨g8, 0, none⟩ = some (.int .u8 ((a.m : Nat) : Int)) := cell_of_row _ _ 0 _ _ _ (HQ7.out.of 2 rfl)
            rw [HM.out] at h
            exact h
          have x1 : w7.cell? ⟨g8, 1, none⟩ = some (.int .u16 ((a.s : Nat) : Int)) := cell_of_row _ _ 1 _ _ _ (HQ7.out.of 2 rfl)
          have x2 : w7.cell? ⟨g8, 2, none⟩ = some (.int .u8 ((a.c : Nat) : Int)) := cell_of_row _ _ 2 _ _ _ (HQ7.out.of 2 rfl)
          have x3 : w7.cell? ⟨g8, 3, none⟩ = some (.int .u8 ((a.n : Nat) : Int)) := cell_of_row _ _ 3 _ _ _ (HQ7.out.of 2 rfl)
          have x4 : w7.cell? ⟨g8, 4, none⟩ = some (.int .u8 ((a.d : Nat) : Int)) := cell_of_row _ _ 4 _ _ _ (HQ7.out.of 2 rfl)
          have hne : ∀ w, (binOp .neq 123 (.agg #[.int .u8 ((0 : Nat) : Int), .int .u16 ((a.s : Nat) : Int), .int .u8 ((a.c : Nat) : Int), .int .u8 ((a.n : Nat) : Int), .int .u8 ((a.d : Nat) : Int)]) (.agg #[.int .u8 ((0 : Nat) : Int), .int .u16 ((a.s : Nat) : Int), .int .u8 ((a.c : Nat) : Int), .int .u8 ((a.n : Nat) : Int), .int .u8 ((a.d : Nat) : Int)])).run Try.prog w = .ok (.bool false) w := by
            have h := neqMo HA.out
            rw [HM.out] at h
            exact h
          skip
          go_wp2_with fail
          go_roundw
          case rel => exact ⟨2 + 1, Nat.succ_pos _, by omega, by go_num, Bq.front (bs := [(g2, #[.int .u8 ((Mo.m a : Nat) : Int), .int .u16 ((Mo.s a : Nat) : Int), .int .u8 ((Mo.c a : Nat) : Int), .int .u8 ((Mo.n a : Nat) : Int), .int .u8 ((Mo.d a : Nat) : Int)], 123), (g3, #[.int .u8 ((Cf.calm c : Nat) : Int), .int .u8 ((Cf.seen c : Nat) : Int), .int .u8 ((Cf.lost c : Nat) : Int), .int .u16 ((Cf.t c 0 : Nat) : Int), .int .u16 ((Cf.t c 1 : Nat) : Int), .int .u16 ((Cf.t c 2 : Nat) : Int), .int .u16 ((Cf.t c 3 : Nat) : Int)], 126)]) (cs := [(g8, #[.int .u8 ((Mo.m a : Nat) : Int), .int .u16 ((Mo.s a : Nat) : Int), .int .u8 ((Mo.c a : Nat) : Int), .int .u8 ((Mo.n a : Nat) : Int), .int .u8 ((Mo.d a : Nat) : Int)], 123)]) HQ7.out⟩
          case measure => simp [intOf]; try omega
        · skip
          rw [show decide (mayM a c _) = false from decide_eq_false (fun g => by have := HMAY.out.1 g; omega), if_neg (by decide)] at hAk
          have HK := Lib.hid hAk
          clear hAk
          skip
          have b0 := HQ.out.of 0 rfl
          have b1 := HQ.out.of 1 rfl
          clear h4 hk0
          (try clear hs)
          go_wp2_with (first | ((with_reducible show wpList _ _ _ (_ :: _) _ _); refine wpList_load_row rfl 123 _ rfl _ rfl _ _ _ _ b0 Try.underlying123 rfl (by exact size_mo) ?_; (try go_simp)) | ((with_reducible show wpList _ _ _ (_ :: _) _ _); refine wpList_load_row rfl 126 _ rfl _ rfl _ _ _ _ b1 Try.underlying126 rfl (by exact size_cf) ?_; (try go_simp)))
          refine (HK.out _).mono ?_
          rintro e w6 ⟨rfl, hb⟩
          have HQ6 := Lib.hid ((HQ.out.step hb).new #[.int .u8 ((Mo.m a : Nat) : Int), .int .u16 ((Mo.s a : Nat) : Int), .int .u8 ((Mo.c a : Nat) : Int), .int .u8 ((Mo.n a : Nat) : Int), .int .u8 ((Mo.d a : Nat) : Int)] 123)
          clear hb b0 b1 HQ
          go_upto_region 11 with ((with_reducible show wpList _ _ _ (_ :: _) _ _); refine wpList_store_row rfl 123 _ _ rfl _ _ rfl rfl _ _ (heap_alloc_new _ _) (by exact size_mo) (by rfl) (by simp [Value.oneCell']) ?_; rw [World.setRow_alloc_new])
          obtain ⟨w7, hw7⟩ : ∃ w1, w1 = w6.alloc (.cells #[.int .u8 ((Mo.m a : Nat) : Int), .int .u16 ((Mo.s a : Nat) : Int), .int .u8 ((Mo.c a : Nat) : Int), .int .u8 ((Mo.n a : Nat) : Int), .int .u8 ((Mo.d a : Nat) : Int)] 123) := ⟨_, rfl⟩
          obtain ⟨g8, hg8⟩ : ∃ g, g = w6.heap.size := ⟨_, rfl⟩
          have HQ7 := Lib.hid (show Bq w w7 [(g2, #[.int .u8 ((Mo.m a : Nat) : Int), .int .u16 ((Mo.s a : Nat) : Int), .int .u8 ((Mo.c a : Nat) : Int), .int .u8 ((Mo.n a : Nat) : Int), .int .u8 ((Mo.d a : Nat) : Int)], 123), (g3, #[.int .u8 ((Cf.calm c : Nat) : Int), .int .u8 ((Cf.seen c : Nat) : Int), .int .u8 ((Cf.lost c : Nat) : Int), .int .u16 ((Cf.t c 0 : Nat) : Int), .int .u16 ((Cf.t c 1 : Nat) : Int), .int .u16 ((Cf.t c 2 : Nat) : Int), .int .u16 ((Cf.t c 3 : Nat) : Int)], 126), (g8, #[.int .u8 ((Mo.m a : Nat) : Int), .int .u16 ((Mo.s a : Nat) : Int), .int .u8 ((Mo.c a : Nat) : Int), .int .u8 ((Mo.n a : Nat) : Int), .int .u8 ((Mo.d a : Nat) : Int)], 123)] by rw [hw7, hg8]; exact HQ6.out)
          rw [← hw7, ← hg8]
          clear hw7 hg8 HQ6
          have c0 : w7.cell? ⟨g2, 0, none⟩ = some (.int .u8 ((0 : Nat) : Int)) := by
            have h : w7.cell? ⟨g2, 0, none⟩ = some (.int .u8 ((a.m : Nat) : Int)) := cell_of_row _ _ 0 _ _ _ (HQ7.out.of 0 rfl)
            rw [HM.out] at h
            exact h
          have c3 : w7.cell? ⟨g2, 3, none⟩ = some (.int .u8 ((a.n : Nat) : Int)) := cell_of_row _ _ 3 _ _ _ (HQ7.out.of 0 rfl)
          have d1 : w7.cell? ⟨g3, 1, none⟩ = some (.int .u8 ((c.seen : Nat) : Int)) := cell_of_row _ _ 1 _ _ _ (HQ7.out.of 1 rfl)
          skip
          have c1 : w7.cell? ⟨g2, 1, none⟩ = some (.int .u16 ((a.s : Nat) : Int)) := cell_of_row _ _ 1 _ _ _ (HQ7.out.of 0 rfl)
          have c2 : w7.cell? ⟨g2, 2, none⟩ = some (.int .u8 ((a.c : Nat) : Int)) := cell_of_row _ _ 2 _ _ _ (HQ7.out.of 0 rfl)
          have c4 : w7.cell? ⟨g2, 4, none⟩ = some (.int .u8 ((a.d : Nat) : Int)) := cell_of_row _ _ 4 _ _ _ (HQ7.out.of 0 rfl)
          have x0 : w7.cell? ⟨g8, 0, none⟩ = some (.int .u8 ((0 : Nat) : Int)) := by
            have h : w7.cell? ⟨g8, 0, none⟩ = some (.int .u8 ((a.m : Nat) : Int)) := cell_of_row _ _ 0 _ _ _ (HQ7.out.of 2 rfl)
            rw [HM.out] at h
            exact h
          have x1 : w7.cell? ⟨g8, 1, none⟩ = some (.int .u16 ((a.s : Nat) : Int)) := cell_of_row _ _ 1 _ _ _ (HQ7.out.of 2 rfl)
          have x2 : w7.cell? ⟨g8, 2, none⟩ = some (.int .u8 ((a.c : Nat) : Int)) := cell_of_row _ _ 2 _ _ _ (HQ7.out.of 2 rfl)
          have x3 : w7.cell? ⟨g8, 3, none⟩ = some (.int .u8 ((a.n : Nat) : Int)) := cell_of_row _ _ 3 _ _ _ (HQ7.out.of 2 rfl)
          have x4 : w7.cell? ⟨g8, 4, none⟩ = some (.int .u8 ((a.d : Nat) : Int)) := cell_of_row _ _ 4 _ _ _ (HQ7.out.of 2 rfl)
          have hne : ∀ w, (binOp .neq 123 (.agg #[.int .u8 ((0 : Nat) : Int), .int .u16 ((a.s : Nat) : Int), .int .u8 ((a.c : Nat) : Int), .int .u8 ((a.n : Nat) : Int), .int .u8 ((a.d : Nat) : Int)]) (.agg #[.int .u8 ((0 : Nat) : Int), .int .u16 ((a.s : Nat) : Int), .int .u8 ((a.c : Nat) : Int), .int .u8 ((a.n : Nat) : Int), .int .u8 ((a.d : Nat) : Int)])).run Try.prog w = .ok (.bool false) w := by
            have h := neqMo HA.out
            rw [HM.out] at h
            exact h
          skip
          go_wp2_with fail
          go_roundw
          case rel => exact ⟨3 + 1, Nat.succ_pos _, by omega, by go_num, Bq.front (bs := [(g2, #[.int .u8 ((Mo.m a : Nat) : Int), .int .u16 ((Mo.s a : Nat) : Int), .int .u8 ((Mo.c a : Nat) : Int), .int .u8 ((Mo.n a : Nat) : Int), .int .u8 ((Mo.d a : Nat) : Int)], 123), (g3, #[.int .u8 ((Cf.calm c : Nat) : Int), .int .u8 ((Cf.seen c : Nat) : Int), .int .u8 ((Cf.lost c : Nat) : Int), .int .u16 ((Cf.t c 0 : Nat) : Int), .int .u16 ((Cf.t c 1 : Nat) : Int), .int .u16 ((Cf.t c 2 : Nat) : Int), .int .u16 ((Cf.t c 3 : Nat) : Int)], 126)]) (cs := [(g8, #[.int .u8 ((Mo.m a : Nat) : Int), .int .u16 ((Mo.s a : Nat) : Int), .int .u8 ((Mo.c a : Nat) : Int), .int .u8 ((Mo.n a : Nat) : Int), .int .u8 ((Mo.d a : Nat) : Int)], 123)]) HQ7.out⟩
          case measure => simp [intOf]; try omega
        · skip
          rw [show decide (mayM a c _) = false from decide_eq_false (fun g => by have := HMAY.out.1 g; omega), if_neg (by decide)] at hAk
          have HK := Lib.hid hAk
          clear hAk
          skip
          have b0 := HQ.out.of 0 rfl
          have b1 := HQ.out.of 1 rfl
          clear h4 hk0
          (try clear hs)
          go_wp2_with (first | ((with_reducible show wpList _ _ _ (_ :: _) _ _); refine wpList_load_row rfl 123 _ rfl _ rfl _ _ _ _ b0 Try.underlying123 rfl (by exact size_mo) ?_; (try go_simp)) | ((with_reducible show wpList _ _ _ (_ :: _) _ _); refine wpList_load_row rfl 126 _ rfl _ rfl _ _ _ _ b1 Try.underlying126 rfl (by exact size_cf) ?_; (try go_simp)))
          refine (HK.out _).mono ?_
          rintro e w6 ⟨rfl, hb⟩
          have HQ6 := Lib.hid ((HQ.out.step hb).new #[.int .u8 ((Mo.m a : Nat) : Int), .int .u16 ((Mo.s a : Nat) : Int), .int .u8 ((Mo.c a : Nat) : Int), .int .u8 ((Mo.n a : Nat) : Int), .int .u8 ((Mo.d a : Nat) : Int)] 123)
          clear hb b0 b1 HQ
          go_upto_region 11 with ((with_reducible show wpList _ _ _ (_ :: _) _ _); refine wpList_store_row rfl 123 _ _ rfl _ _ rfl rfl _ _ (heap_alloc_new _ _) (by exact size_mo) (by rfl) (by simp [Value.oneCell']) ?_; rw [World.setRow_alloc_new])
          obtain ⟨w7, hw7⟩ : ∃ w1, w1 = w6.alloc (.cells #[.int .u8 ((Mo.m a : Nat) : Int), .int .u16 ((Mo.s a : Nat) : Int), .int .u8 ((Mo.c a : Nat) : Int), .int .u8 ((Mo.n a : Nat) : Int), .int .u8 ((Mo.d a : Nat) : Int)] 123) := ⟨_, rfl⟩
          obtain ⟨g8, hg8⟩ : ∃ g, g = w6.heap.size := ⟨_, rfl⟩
          have HQ7 := Lib.hid (show Bq w w7 [(g2, #[.int .u8 ((Mo.m a : Nat) : Int), .int .u16 ((Mo.s a : Nat) : Int), .int .u8 ((Mo.c a : Nat) : Int), .int .u8 ((Mo.n a : Nat) : Int), .int .u8 ((Mo.d a : Nat) : Int)], 123), (g3, #[.int .u8 ((Cf.calm c : Nat) : Int), .int .u8 ((Cf.seen c : Nat) : Int), .int .u8 ((Cf.lost c : Nat) : Int), .int .u16 ((Cf.t c 0 : Nat) : Int), .int .u16 ((Cf.t c 1 : Nat) : Int), .int .u16 ((Cf.t c 2 : Nat) : Int), .int .u16 ((Cf.t c 3 : Nat) : Int)], 126), (g8, #[.int .u8 ((Mo.m a : Nat) : Int), .int .u16 ((Mo.s a : Nat) : Int), .int .u8 ((Mo.c a : Nat) : Int), .int .u8 ((Mo.n a : Nat) : Int), .int .u8 ((Mo.d a : Nat) : Int)], 123)] by rw [hw7, hg8]; exact HQ6.out)
          rw [← hw7, ← hg8]
          clear hw7 hg8 HQ6
          have c0 : w7.cell? ⟨g2, 0, none⟩ = some (.int .u8 ((1 : Nat) : Int)) := by
            have h : w7.cell? ⟨g2, 0, none⟩ = some (.int .u8 ((a.m : Nat) : Int)) := cell_of_row _ _ 0 _ _ _ (HQ7.out.of 0 rfl)
            rw [HM.out] at h
            exact h
          have c3 : w7.cell? ⟨g2, 3, none⟩ = some (.int .u8 ((a.n : Nat) : Int)) := cell_of_row _ _ 3 _ _ _ (HQ7.out.of 0 rfl)
          have d1 : w7.cell? ⟨g3, 1, none⟩ = some (.int .u8 ((c.seen : Nat) : Int)) := cell_of_row _ _ 1 _ _ _ (HQ7.out.of 1 rfl)
          skip
          have c1 : w7.cell? ⟨g2, 1, none⟩ = some (.int .u16 ((a.s : Nat) : Int)) := cell_of_row _ _ 1 _ _ _ (HQ7.out.of 0 rfl)
          have c2 : w7.cell? ⟨g2, 2, none⟩ = some (.int .u8 ((a.c : Nat) : Int)) := cell_of_row _ _ 2 _ _ _ (HQ7.out.of 0 rfl)
          have c4 : w7.cell? ⟨g2, 4, none⟩ = some (.int .u8 ((a.d : Nat) : Int)) := cell_of_row _ _ 4 _ _ _ (HQ7.out.of 0 rfl)
          have x0 : w7.cell? ⟨g8, 0, none⟩ = some (.int .u8 ((1 : Nat) : Int)) := by
            have h : w7.cell? ⟨g8, 0, none⟩ = some (.int .u8 ((a.m : Nat) : Int)) := cell_of_row _ _ 0 _ _ _ (HQ7.out.of 2 rfl)
            rw [HM.out] at h
            exact h
          have x1 : w7.cell? ⟨g8, 1, none⟩ = some (.int .u16 ((a.s : Nat) : Int)) := cell_of_row _ _ 1 _ _ _ (HQ7.out.of 2 rfl)
          have x2 : w7.cell? ⟨g8, 2, none⟩ = some (.int .u8 ((a.c : Nat) : Int)) := cell_of_row _ _ 2 _ _ _ (HQ7.out.of 2 rfl)
          have x3 : w7.cell? ⟨g8, 3, none⟩ = some (.int .u8 ((a.n : Nat) : Int)) := cell_of_row _ _ 3 _ _ _ (HQ7.out.of 2 rfl)
          have x4 : w7.cell? ⟨g8, 4, none⟩ = some (.int .u8 ((a.d : Nat) : Int)) := cell_of_row _ _ 4 _ _ _ (HQ7.out.of 2 rfl)
          have hne : ∀ w, (binOp .neq 123 (.agg #[.int .u8 ((1 : Nat) : Int), .int .u16 ((a.s : Nat) : Int), .int .u8 ((a.c : Nat) : Int), .int .u8 ((a.n : Nat) : Int), .int .u8 ((a.d : Nat) : Int)]) (.agg #[.int .u8 ((1 : Nat) : Int), .int .u16 ((a.s : Nat) : Int), .int .u8 ((a.c : Nat) : Int), .int .u8 ((a.n : Nat) : Int), .int .u8 ((a.d : Nat) : Int)])).run Try.prog w = .ok (.bool false) w := by
            have h := neqMo HA.out
            rw [HM.out] at h
            exact h
          skip
          go_wp2_with fail
          go_roundw
          case rel => exact ⟨3 + 1, Nat.succ_pos _, by omega, by go_num, Bq.front (bs := [(g2, #[.int .u8 ((Mo.m a : Nat) : Int), .int .u16 ((Mo.s a : Nat) : Int), .int .u8 ((Mo.c a : Nat) : Int), .int .u8 ((Mo.n a : Nat) : Int), .int .u8 ((Mo.d a : Nat) : Int)], 123), (g3, #[.int .u8 ((Cf.calm c : Nat) : Int), .int .u8 ((Cf.seen c : Nat) : Int), .int .u8 ((Cf.lost c : Nat) : Int), .int .u16 ((Cf.t c 0 : Nat) : Int), .int .u16 ((Cf.t c 1 : Nat) : Int), .int .u16 ((Cf.t c 2 : Nat) : Int), .int .u16 ((Cf.t c 3 : Nat) : Int)], 126)]) (cs := [(g8, #[.int .u8 ((Mo.m a : Nat) : Int), .int .u16 ((Mo.s a : Nat) : Int), .int .u8 ((Mo.c a : Nat) : Int), .int .u8 ((Mo.n a : Nat) : Int), .int .u8 ((Mo.d a : Nat) : Int)], 123)]) HQ7.out⟩
          case measure => simp [intOf]; try omega
        · skip
          rw [show decide (mayM a c _) = false from decide_eq_false (fun g => by have := HMAY.out.1 g; omega), if_neg (by decide)] at hAk
          have HK := Lib.hid hAk
          clear hAk
          skip
          have b0 := HQ.out.of 0 rfl
          have b1 := HQ.out.of 1 rfl
          clear h4 hk0
          (try clear hs)
          go_wp2_with (first | ((with_reducible show wpList _ _ _ (_ :: _) _ _); refine wpList_load_row rfl 123 _ rfl _ rfl _ _ _ _ b0 Try.underlying123 rfl (by exact size_mo) ?_; (try go_simp)) | ((with_reducible show wpList _ _ _ (_ :: _) _ _); refine wpList_load_row rfl 126 _ rfl _ rfl _ _ _ _ b1 Try.underlying126 rfl (by exact size_cf) ?_; (try go_simp)))
          refine (HK.out _).mono ?_
          rintro e w6 ⟨rfl, hb⟩
          have HQ6 := Lib.hid ((HQ.out.step hb).new #[.int .u8 ((Mo.m a : Nat) : Int), .int .u16 ((Mo.s a : Nat) : Int), .int .u8 ((Mo.c a : Nat) : Int), .int .u8 ((Mo.n a : Nat) : Int), .int .u8 ((Mo.d a : Nat) : Int)] 123)
          clear hb b0 b1 HQ
          go_upto_region 11 with ((with_reducible show wpList _ _ _ (_ :: _) _ _); refine wpList_store_row rfl 123 _ _ rfl _ _ rfl rfl _ _ (heap_alloc_new _ _) (by exact size_mo) (by rfl) (by simp [Value.oneCell']) ?_; rw [World.setRow_alloc_new])
          obtain ⟨w7, hw7⟩ : ∃ w1, w1 = w6.alloc (.cells #[.int .u8 ((Mo.m a : Nat) : Int), .int .u16 ((Mo.s a : Nat) : Int), .int .u8 ((Mo.c a : Nat) : Int), .int .u8 ((Mo.n a : Nat) : Int), .int .u8 ((Mo.d a : Nat) : Int)] 123) := ⟨_, rfl⟩
          obtain ⟨g8, hg8⟩ : ∃ g, g = w6.heap.size := ⟨_, rfl⟩
          have HQ7 := Lib.hid (show Bq w w7 [(g2, #[.int .u8 ((Mo.m a : Nat) : Int), .int .u16 ((Mo.s a : Nat) : Int), .int .u8 ((Mo.c a : Nat) : Int), .int .u8 ((Mo.n a : Nat) : Int), .int .u8 ((Mo.d a : Nat) : Int)], 123), (g3, #[.int .u8 ((Cf.calm c : Nat) : Int), .int .u8 ((Cf.seen c : Nat) : Int), .int .u8 ((Cf.lost c : Nat) : Int), .int .u16 ((Cf.t c 0 : Nat) : Int), .int .u16 ((Cf.t c 1 : Nat) : Int), .int .u16 ((Cf.t c 2 : Nat) : Int), .int .u16 ((Cf.t c 3 : Nat) : Int)], 126), (g8, #[.int .u8 ((Mo.m a : Nat) : Int), .int .u16 ((Mo.s a : Nat) : Int), .int .u8 ((Mo.c a : Nat) : Int), .int .u8 ((Mo.n a : Nat) : Int), .int .u8 ((Mo.d a : Nat) : Int)], 123)] by rw [hw7, hg8]; exact HQ6.out)
          rw [← hw7, ← hg8]
          clear hw7 hg8 HQ6
          have c0 : w7.cell? ⟨g2, 0, none⟩ = some (.int .u8 ((2 : Nat) : Int)) := by
            have h : w7.cell? ⟨g2, 0, none⟩ = some (.int .u8 ((a.m : Nat) : Int)) := cell_of_row _ _ 0 _ _ _ (HQ7.out.of 0 rfl)
            rw [HM.out] at h
            exact h
          have c3 : w7.cell? ⟨g2, 3, none⟩ = some (.int .u8 ((a.n : Nat) : Int)) := cell_of_row _ _ 3 _ _ _ (HQ7.out.of 0 rfl)
          have d1 : w7.cell? ⟨g3, 1, none⟩ = some (.int .u8 ((c.seen : Nat) : Int)) := cell_of_row _ _ 1 _ _ _ (HQ7.out.of 1 rfl)
          skip
          have c1 : w7.cell? ⟨g2, 1, none⟩ = some (.int .u16 ((a.s : Nat) : Int)) := cell_of_row _ _ 1 _ _ _ (HQ7.out.of 0 rfl)
          have c2 : w7.cell? ⟨g2, 2, none⟩ = some (.int .u8 ((a.c : Nat) : Int)) := cell_of_row _ _ 2 _ _ _ (HQ7.out.of 0 rfl)
          have c4 : w7.cell? ⟨g2, 4, none⟩ = some (.int .u8 ((a.d : Nat) : Int)) := cell_of_row _ _ 4 _ _ _ (HQ7.out.of 0 rfl)
          have x0 : w7.cell? ⟨g8, 0, none⟩ = some (.int .u8 ((2 : Nat) : Int)) := by
            have h : w7.cell? ⟨g8, 0, none⟩ = some (.int .u8 ((a.m : Nat) : Int)) := cell_of_row _ _ 0 _ _ _ (HQ7.out.of 2 rfl)
            rw [HM.out] at h
            exact h
          have x1 : w7.cell? ⟨g8, 1, none⟩ = some (.int .u16 ((a.s : Nat) : Int)) := cell_of_row _ _ 1 _ _ _ (HQ7.out.of 2 rfl)
          have x2 : w7.cell? ⟨g8, 2, none⟩ = some (.int .u8 ((a.c : Nat) : Int)) := cell_of_row _ _ 2 _ _ _ (HQ7.out.of 2 rfl)
          have x3 : w7.cell? ⟨g8, 3, none⟩ = some (.int .u8 ((a.n : Nat) : Int)) := cell_of_row _ _ 3 _ _ _ (HQ7.out.of 2 rfl)
          have x4 : w7.cell? ⟨g8, 4, none⟩ = some (.int .u8 ((a.d : Nat) : Int)) := cell_of_row _ _ 4 _ _ _ (HQ7.out.of 2 rfl)
          have hne : ∀ w, (binOp .neq 123 (.agg #[.int .u8 ((2 : Nat) : Int), .int .u16 ((a.s : Nat) : Int), .int .u8 ((a.c : Nat) : Int), .int .u8 ((a.n : Nat) : Int), .int .u8 ((a.d : Nat) : Int)]) (.agg #[.int .u8 ((2 : Nat) : Int), .int .u16 ((a.s : Nat) : Int), .int .u8 ((a.c : Nat) : Int), .int .u8 ((a.n : Nat) : Int), .int .u8 ((a.d : Nat) : Int)])).run Try.prog w = .ok (.bool false) w := by
            have h := neqMo HA.out
            rw [HM.out] at h
            exact h
          skip
          go_wp2_with fail
          go_roundw
          case rel => exact ⟨3 + 1, Nat.succ_pos _, by omega, by go_num, Bq.front (bs := [(g2, #[.int .u8 ((Mo.m a : Nat) : Int), .int .u16 ((Mo.s a : Nat) : Int), .int .u8 ((Mo.c a : Nat) : Int), .int .u8 ((Mo.n a : Nat) : Int), .int .u8 ((Mo.d a : Nat) : Int)], 123), (g3, #[.int .u8 ((Cf.calm c : Nat) : Int), .int .u8 ((Cf.seen c : Nat) : Int), .int .u8 ((Cf.lost c : Nat) : Int), .int .u16 ((Cf.t c 0 : Nat) : Int), .int .u16 ((Cf.t c 1 : Nat) : Int), .int .u16 ((Cf.t c 2 : Nat) : Int), .int .u16 ((Cf.t c 3 : Nat) : Int)], 126)]) (cs := [(g8, #[.int .u8 ((Mo.m a : Nat) : Int), .int .u16 ((Mo.s a : Nat) : Int), .int .u8 ((Mo.c a : Nat) : Int), .int .u8 ((Mo.n a : Nat) : Int), .int .u8 ((Mo.d a : Nat) : Int)], 123)]) HQ7.out⟩
          case measure => simp [intOf]; try omega
    · obtain rfl : k = 4 := by omega
      clear hk h4 hk0
      have b0 := HQ.out.of 0 rfl
      have b1 := HQ.out.of 1 rfl
      have hA4 := fun w => Ask_any a c 4 w HA.out HC.out (by decide)
      rw [ask_bad c (by decide)] at hA4
      have HK := Lib.hid hA4
      clear hA4
      go_wp2_with (first | ((with_reducible show wpList _ _ _ (_ :: _) _ _); refine wpList_load_row rfl 123 _ rfl _ rfl _ _ _ _ b0 Try.underlying123 rfl (by exact size_mo) ?_; (try go_simp)) | ((with_reducible show wpList _ _ _ (_ :: _) _ _); refine wpList_load_row rfl 126 _ rfl _ rfl _ _ _ _ b1 Try.underlying126 rfl (by exact size_cf) ?_; (try go_simp)))
      refine (HK.out _).mono ?_
      rintro e w6 ⟨rfl, hb⟩
      have HQ6 := Lib.hid ((HQ.out.step hb).new #[.int .u8 ((Mo.m a : Nat) : Int), .int .u16 ((Mo.s a : Nat) : Int), .int .u8 ((Mo.c a : Nat) : Int), .int .u8 ((Mo.n a : Nat) : Int), .int .u8 ((Mo.d a : Nat) : Int)] 123)
      clear hb b0 b1 HQ
      go_wp2_with ((with_reducible show wpList _ _ _ (_ :: _) _ _); refine wpList_store_row rfl 123 _ _ rfl _ _ rfl rfl _ _ (heap_alloc_new _ _) (by exact size_mo) (by rfl) (by simp [Value.oneCell']) ?_; rw [World.setRow_alloc_new])
      go_ret
      exact ⟨rfl, HQ6.out.be⟩
end Go.Proofs.Ytnjkpamjjdkmoaa
