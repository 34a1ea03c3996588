/- ModeSteps. -/
import Derived.Test.YtnjkpamjjdkmoaaLaw24
import Derived.Test.YtnjkpamjjdkmoaaMd3e
import Derived.Test.YtnjkpamjjdkmoaaMd5
namespace Go.Proofs.Ytnjkpamjjdkmoaa
open Go.RowKit Go.Own
set_option linter.unusedVariables false
set_option linter.unusedSimpArgs false
theorem stepM_le (a : Mo) (c : Cf) (calm seen safe : Bool) : (stepM a c calm seen safe).2 ≤ 4 := by
  unfold stepM
  repeat' split
  all_goals simp
set_option maxRecDepth 100000 in
set_option maxHeartbeats 8000000 in
theorem walk_ModeSteps (n0_0 n0_1 n0_2 n0_3 n0_4 : Int) (cs1 : List Value) (a2 a3 a4 : Bool) (a5 : Int) (w : World) (w0_0 : (Lit.int .u8 n0_0).wf = true) (w0_1 : (Lit.int .u16 n0_1).wf = true) (w0_2 : (Lit.int .u8 n0_2).wf = true) (w0_3 : (Lit.int .u8 n0_3).wf = true) (w0_4 : (Lit.int .u8 n0_4).wf = true) (w1 : Fit w [.int .u8, .int .u8, .int .u8, .int .u16, .int .u16, .int .u16, .int .u16] cs1) (w5 : (Lit.int .u8 a5).wf = true) :
    Calls Try.prog 11 #[.agg #[.int .u8 n0_0, .int .u16 n0_1, .int .u8 n0_2, .int .u8 n0_3, .int .u8 n0_4], .agg cs1.toArray, .bool a2, .bool a3, .bool a4, .int .u8 a5] w fun e w' => e = .returned (.bool true) ∧ Below w.heap.size w w' := by
  obtain ⟨a0, h1, h2, h3, h4, h5, rfl, rfl, rfl, rfl, rfl⟩ := mo_of w0_0 w0_1 w0_2 w0_3 w0_4
  obtain ⟨c, hc, e1⟩ := cf_fit w1
  rw [e1]
  have HC := Lib.hid hc
  obtain ⟨q0, q1⟩ := bounds_u8 w5
  obtain ⟨k, rfl⟩ := Int.eq_ofNat_of_zero_le q0
  have hk : k < 256 := by omega
  clear w0_0 w0_1 w0_2 w0_3 w0_4 w1 e1 hc cs1 w5 q0 q1
  have hz := zero_mo
  have hzr := zero_mr
  have hq := ((Bq.nil w).new #[.int .u8 ((Mo.m a0 : Nat) : Int), .int .u16 ((Mo.s a0 : Nat) : Int), .int .u8 ((Mo.c a0 : Nat) : Int), .int .u8 ((Mo.n a0 : Nat) : Int), .int .u8 ((Mo.d a0 : Nat) : Int)] 123).new #[.int .u8 ((Cf.calm c : Nat) : Int), .int .u8 ((Cf.seen c : Nat) : Int), .int .u8 ((Cf.lost c : Nat) : Int), .int .u16 ((Cf.t c 0 : Nat) : Int), .int .u16 ((Cf.t c 1 : Nat) : Int), .int .u16 ((Cf.t c 2 : Nat) : Int), .int .u16 ((Cf.t c 3 : Nat) : Int)] 126
  go_enter Try.func11, Try.ntmps11
  go_upto_region 1 with fail
  simp only [World.size_alloc] at hq
  obtain ⟨w1, hw1⟩ : ∃ w1, w1 = (w.alloc (.cells #[.int .u8 ((Mo.m a0 : Nat) : Int), .int .u16 ((Mo.s a0 : Nat) : Int), .int .u8 ((Mo.c a0 : Nat) : Int), .int .u8 ((Mo.n a0 : Nat) : Int), .int .u8 ((Mo.d a0 : Nat) : Int)] 123)).alloc (.cells #[.int .u8 ((Cf.calm c : Nat) : Int), .int .u8 ((Cf.seen c : Nat) : Int), .int .u8 ((Cf.lost c : Nat) : Int), .int .u16 ((Cf.t c 0 : Nat) : Int), .int .u16 ((Cf.t c 1 : Nat) : Int), .int .u16 ((Cf.t c 2 : Nat) : Int), .int .u16 ((Cf.t c 3 : Nat) : Int)] 126) := ⟨_, rfl⟩
  rw [← hw1] at hq ⊢
  obtain ⟨g7, hg7⟩ : ∃ g, g = w.heap.size + 1 := ⟨_, rfl⟩
  rw [← hg7] at hq ⊢
  obtain ⟨g6, hg6⟩ : ∃ g, g = w.heap.size := ⟨_, rfl⟩
  rw [← hg6] at hq
  rw [show (Value.pointer (some ⟨w.heap.size, 0, none⟩)) = .pointer (some ⟨g6, 0, none⟩) by rw [hg6]]
  have HQ1 := Lib.hid (show Bq w w1 [(g6, #[.int .u8 ((Mo.m a0 : Nat) : Int), .int .u16 ((Mo.s a0 : Nat) : Int), .int .u8 ((Mo.c a0 : Nat) : Int), .int .u8 ((Mo.n a0 : Nat) : Int), .int .u8 ((Mo.d a0 : Nat) : Int)], 123), (g7, #[.int .u8 ((Cf.calm c : Nat) : Int), .int .u8 ((Cf.seen c : Nat) : Int), .int .u8 ((Cf.lost c : Nat) : Int), .int .u16 ((Cf.t c 0 : Nat) : Int), .int .u16 ((Cf.t c 1 : Nat) : Int), .int .u16 ((Cf.t c 2 : Nat) : Int), .int .u16 ((Cf.t c 3 : Nat) : Int)], 126)] from hq)
  clear hq hw1 hg6 hg7
  go_wp2_with fail
  go_at_call 65
  refine (awake24 _).mono ?_
  rintro e w2 ⟨rfl, hb⟩
  have HQ2 := Lib.hid (HQ1.out.step hb)
  clear hb HQ1
  have b0 := HQ2.out.of 0 rfl
  go_wp2_with ((with_reducible show wpList _ _ _ (_ :: _) _ _); refine wpList_load_row rfl 123 _ rfl _ rfl _ _ _ _ b0 Try.underlying123 rfl (by exact size_mo) ?_; (try go_simp))
  refine (RightM_any a0 _ h1).mono ?_
  rintro e w3 ⟨rfl, hb⟩
  have HQ3 := Lib.hid (HQ2.out.step hb)
  clear hb HQ2 b0
  have c0 : w3.cell? ⟨g6, 0, none⟩ = some (.int .u8 ((a0.m : Nat) : Int)) := cell_of_row _ _ 0 _ _ _ (HQ3.out.of 0 rfl)
  have f0 := frozen_of_row _ _ 0 _ _ (HQ3.out.of 0 rfl)
  have hbb : (decide (a0.m < 4) == decide ((a0.m : Int) < 4)) = true := by
    rw [show decide ((a0.m : Int) < 4) = decide (a0.m < 4) from decide_eq_decide.2 (by omega)]; simp
  obtain ⟨m, hm⟩ : ∃ m, m = a0.m % 4 := ⟨_, rfl⟩
  have em : (a0.m : Int) % 4 = (m : Int) := by omega
  have hm4 : m < 4 := by omega
  have EM := Lib.hid em
  have HV := Lib.hid (HQ3.out.set 0 rfl 0 (.int .u8 ((m : Nat) : Int)))
  clear em hm
  go_upto_region 7 with fail
  rw [EM.out]
  obtain ⟨a, hae⟩ : ∃ a : Mo, a = ⟨m, a0.s, a0.c, a0.n, a0.d⟩ := ⟨_, rfl⟩
  have HA := Lib.hid (show a.Ok by rw [hae]; exact ⟨hm4, h2, h3, h4, h5⟩)
  obtain ⟨w4, hw4⟩ : ∃ w1, w1 = w3.setCell ⟨g6, 0, none⟩ (.int .u8 ((m : Nat) : Int)) := ⟨_, rfl⟩
  have HQ4 := Lib.hid (show Bq w w4 [(g6, #[.int .u8 ((Mo.m a : Nat) : Int), .int .u16 ((Mo.s a : Nat) : Int), .int .u8 ((Mo.c a : Nat) : Int), .int .u8 ((Mo.n a : Nat) : Int), .int .u8 ((Mo.d a : Nat) : Int)], 123), (g7, #[.int .u8 ((Cf.calm c : Nat) : Int), .int .u8 ((Cf.seen c : Nat) : Int), .int .u8 ((Cf.lost c : Nat) : Int), .int .u16 ((Cf.t c 0 : Nat) : Int), .int .u16 ((Cf.t c 1 : Nat) : Int), .int .u16 ((Cf.t c 2 : Nat) : Int), .int .u16 ((Cf.t c 3 : Nat) : Int)], 126)] by rw [hw4, hae]; exact HV.out)
  rw [← hw4]
  clear hw4 HV EM c0 f0 HQ3 hae h1 h2 h3 h4 h5 hm4 hbb
  obtain ⟨r, hr⟩ : ∃ r, stepM a c a2 a3 a4 = r := ⟨_, rfl⟩
  obtain ⟨s, hs⟩ : ∃ s, askM 1 7 a c k = s := ⟨_, rfl⟩
  have HS1 := Lib.hid (fun w => Step_any a c a2 a3 a4 w HA.out HC.out)
  have HS2 := Lib.hid (fun w => rStep_any a c a2 a3 a4 w HA.out HC.out)
  have HT1 := Lib.hid (fun w => Ask_any a c k w HA.out HC.out hk)
  have HT2 := Lib.hid (fun w => rAsk_any a c k w HA.out HC.out hk)
  have hr2 : r.2 < 256 := by rw [← hr]; exact Nat.lt_of_le_of_lt (stepM_le a c a2 a3 a4) (by decide)
  have HR2 := Lib.hid hr2
  clear hr2
  have HRO := Lib.hid (show r.1.Ok by rw [← hr]; exact step_ok HA.out c a2 a3 a4)
  have HSO := Lib.hid (show s.1.Ok by rw [← hs]; exact ask_ok HA.out 1 7 c k)
  rw [hr] at HS1 HS2
  rw [hs] at HT1 HT2
  clear hr hs
  have b0 := HQ4.out.of 0 rfl
  have b1 := HQ4.out.of 1 rfl
  go_wp2_with (first | ((with_reducible show wpList _ _ _ (_ :: _) _ _); refine wpList_load_row rfl 123 _ rfl _ rfl _ _ _ _ b0 Try.underlying123 rfl (by exact size_mo) ?_; (try go_simp)) | ((with_reducible show wpList _ _ _ (_ :: _) _ _); refine wpList_load_row rfl 126 _ rfl _ rfl _ _ _ _ b1 Try.underlying126 rfl (by exact size_cf) ?_; (try go_simp)))
  refine (HS1.out _).mono ?_
  rintro e w5 ⟨rfl, hb⟩
  have HQ5 := Lib.hid ((HQ4.out.step hb).new #[.int .u8 ((Mo.m r.1 : Nat) : Int), .int .u16 ((Mo.s r.1 : Nat) : Int), .int .u8 ((Mo.c r.1 : Nat) : Int), .int .u8 ((Mo.n r.1 : Nat) : Int), .int .u8 ((Mo.d r.1 : Nat) : Int)] 123)
  clear hb b0 b1 HQ4 HS1
  go_upto_region 8 with ((with_reducible show wpList _ _ _ (_ :: _) _ _); refine wpList_store_row rfl 123 _ _ rfl _ _ rfl rfl _ _ (heap_alloc_new _ _) (by exact size_mo) (by rfl) (by simp [Value.oneCell']) ?_; rw [World.setRow_alloc_new])
  obtain ⟨w6, hw6⟩ : ∃ w1, w1 = w5.alloc (.cells #[.int .u8 ((Mo.m r.1 : Nat) : Int), .int .u16 ((Mo.s r.1 : Nat) : Int), .int .u8 ((Mo.c r.1 : Nat) : Int), .int .u8 ((Mo.n r.1 : Nat) : Int), .int .u8 ((Mo.d r.1 : Nat) : Int)] 123) := ⟨_, rfl⟩
  obtain ⟨g14, hg14⟩ : ∃ g, g = w5.heap.size := ⟨_, rfl⟩
  have HQ6 := Lib.hid (show Bq w w6 [(g6, #[.int .u8 ((Mo.m a : Nat) : Int), .int .u16 ((Mo.s a : Nat) : Int), .int .u8 ((Mo.c a : Nat) : Int), .int .u8 ((Mo.n a : Nat) : Int), .int .u8 ((Mo.d a : Nat) : Int)], 123), (g7, #[.int .u8 ((Cf.calm c : Nat) : Int), .int .u8 ((Cf.seen c : Nat) : Int), .int .u8 ((Cf.lost c : Nat) : Int), .int .u16 ((Cf.t c 0 : Nat) : Int), .int .u16 ((Cf.t c 1 : Nat) : Int), .int .u16 ((Cf.t c 2 : Nat) : Int), .int .u16 ((Cf.t c 3 : Nat) : Int)], 126), (g14, #[.int .u8 ((Mo.m r.1 : Nat) : Int), .int .u16 ((Mo.s r.1 : Nat) : Int), .int .u8 ((Mo.c r.1 : Nat) : Int), .int .u8 ((Mo.n r.1 : Nat) : Int), .int .u8 ((Mo.d r.1 : Nat) : Int)], 123)] by rw [hw6, hg14]; exact HQ5.out)
  rw [← hw6, ← hg14]
  clear hw6 hg14 HQ5
  have b0 := HQ6.out.of 0 rfl
  have b1 := HQ6.out.of 1 rfl
  go_wp2_with (first | ((with_reducible show wpList _ _ _ (_ :: _) _ _); refine wpList_load_row rfl 123 _ rfl _ rfl _ _ _ _ b0 Try.underlying123 rfl (by exact size_mo) ?_; (try go_simp)) | ((with_reducible show wpList _ _ _ (_ :: _) _ _); refine wpList_load_row rfl 126 _ rfl _ rfl _ _ _ _ b1 Try.underlying126 rfl (by exact size_cf) ?_; (try go_simp)))
  refine (HS2.out _).mono ?_
  rintro e w7 ⟨rfl, hb⟩
  have HQ7 := Lib.hid ((HQ6.out.step hb).new #[.int .u8 ((Mo.m r.1 : Nat) : Int), .int .u16 ((Mo.s r.1 : Nat) : Int), .int .u8 ((Mo.c r.1 : Nat) : Int), .int .u8 ((Mo.n r.1 : Nat) : Int), .int .u8 ((Mo.d r.1 : Nat) : Int)] 129)
  clear hb b0 b1 HQ6 HS2
  go_upto_region 9 with ((with_reducible show wpList _ _ _ (_ :: _) _ _); refine wpList_store_row rfl 129 _ _ rfl _ _ rfl rfl _ _ (heap_alloc_new _ _) (by exact size_mr) (by rfl) (by simp [Value.oneCell']) ?_; rw [World.setRow_alloc_new])
  obtain ⟨w8, hw8⟩ : ∃ w1, w1 = w7.alloc (.cells #[.int .u8 ((Mo.m r.1 : Nat) : Int), .int .u16 ((Mo.s r.1 : Nat) : Int), .int .u8 ((Mo.c r.1 : Nat) : Int), .int .u8 ((Mo.n r.1 : Nat) : Int), .int .u8 ((Mo.d r.1 : Nat) : Int)] 129) := ⟨_, rfl⟩
  obtain ⟨g16, hg16⟩ : ∃ g, g = w7.heap.size := ⟨_, rfl⟩
  have HQ8 := Lib.hid (show Bq w w8 [(g6, #[.int .u8 ((Mo.m a : Nat) : Int), .int .u16 ((Mo.s a : Nat) : Int), .int .u8 ((Mo.c a : Nat) : Int), .int .u8 ((Mo.n a : Nat) : Int), .int .u8 ((Mo.d a : Nat) : Int)], 123), (g7, #[.int .u8 ((Cf.calm c : Nat) : Int), .int .u8 ((Cf.seen c : Nat) : Int), .int .u8 ((Cf.lost c : Nat) : Int), .int .u16 ((Cf.t c 0 : Nat) : Int), .int .u16 ((Cf.t c 1 : Nat) : Int), .int .u16 ((Cf.t c 2 : Nat) : Int), .int .u16 ((Cf.t c 3 : Nat) : Int)], 126), (g14, #[.int .u8 ((Mo.m r.1 : Nat) : Int), .int .u16 ((Mo.s r.1 : Nat) : Int), .int .u8 ((Mo.c r.1 : Nat) : Int), .int .u8 ((Mo.n r.1 : Nat) : Int), .int .u8 ((Mo.d r.1 : Nat) : Int)], 123), (g16, #[.int .u8 ((Mo.m r.1 : Nat) : Int), .int .u16 ((Mo.s r.1 : Nat) : Int), .int .u8 ((Mo.c r.1 : Nat) : Int), .int .u8 ((Mo.n r.1 : Nat) : Int), .int .u8 ((Mo.d r.1 : Nat) : Int)], 129)] by rw [hw8, hg16]; exact HQ7.out)
  rw [← hw8, ← hg16]
  clear hw8 hg16 HQ7
  have b0 := HQ8.out.of 0 rfl
  have b1 := HQ8.out.of 1 rfl
  go_wp2_with (first | ((with_reducible show wpList _ _ _ (_ :: _) _ _); refine wpList_load_row rfl 123 _ rfl _ rfl _ _ _ _ b0 Try.underlying123 rfl (by exact size_mo) ?_; (try go_simp)) | ((with_reducible show wpList _ _ _ (_ :: _) _ _); refine wpList_load_row rfl 126 _ rfl _ rfl _ _ _ _ b1 Try.underlying126 rfl (by exact size_cf) ?_; (try go_simp)))
  refine (HT1.out _).mono ?_
  rintro e w9 ⟨rfl, hb⟩
  have HQ9 := Lib.hid ((HQ8.out.step hb).new #[.int .u8 ((Mo.m s.1 : Nat) : Int), .int .u16 ((Mo.s s.1 : Nat) : Int), .int .u8 ((Mo.c s.1 : Nat) : Int), .int .u8 ((Mo.n s.1 : Nat) : Int), .int .u8 ((Mo.d s.1 : Nat) : Int)] 123)
  clear hb b0 b1 HQ8 HT1
  go_upto_region 10 with ((with_reducible show wpList _ _ _ (_ :: _) _ _); refine wpList_store_row rfl 123 _ _ rfl _ _ rfl rfl _ _ (heap_alloc_new _ _) (by exact size_mo) (by rfl) (by simp [Value.oneCell']) ?_; rw [World.setRow_alloc_new])
  obtain ⟨w10, hw10⟩ : ∃ w1, w1 = w9.alloc (.cells #[.int .u8 ((Mo.m s.1 : Nat) : Int), .int .u16 ((Mo.s s.1 : Nat) : Int), .int .u8 ((Mo.c s.1 : Nat) : Int), .int .u8 ((Mo.n s.1 : Nat) : Int), .int .u8 ((Mo.d s.1 : Nat) : Int)] 123) := ⟨_, rfl⟩
  obtain ⟨g18, hg18⟩ : ∃ g, g = w9.heap.size := ⟨_, rfl⟩
  have HQ10 := Lib.hid (show Bq w w10 [(g6, #[.int .u8 ((Mo.m a : Nat) : Int), .int .u16 ((Mo.s a : Nat) : Int), .int .u8 ((Mo.c a : Nat) : Int), .int .u8 ((Mo.n a : Nat) : Int), .int .u8 ((Mo.d a : Nat) : Int)], 123), (g7, #[.int .u8 ((Cf.calm c : Nat) : Int), .int .u8 ((Cf.seen c : Nat) : Int), .int .u8 ((Cf.lost c : Nat) : Int), .int .u16 ((Cf.t c 0 : Nat) : Int), .int .u16 ((Cf.t c 1 : Nat) : Int), .int .u16 ((Cf.t c 2 : Nat) : Int), .int .u16 ((Cf.t c 3 : Nat) : Int)], 126), (g14, #[.int .u8 ((Mo.m r.1 : Nat) : Int), .int .u16 ((Mo.s r.1 : Nat) : Int), .int .u8 ((Mo.c r.1 : Nat) : Int), .int .u8 ((Mo.n r.1 : Nat) : Int), .int .u8 ((Mo.d r.1 : Nat) : Int)], 123), (g16, #[.int .u8 ((Mo.m r.1 : Nat) : Int), .int .u16 ((Mo.s r.1 : Nat) : Int), .int .u8 ((Mo.c r.1 : Nat) : Int), .int .u8 ((Mo.n r.1 : Nat) : Int), .int .u8 ((Mo.d r.1 : Nat) : Int)], 129), (g18, #[.int .u8 ((Mo.m s.1 : Nat) : Int), .int .u16 ((Mo.s s.1 : Nat) : Int), .int .u8 ((Mo.c s.1 : Nat) : Int), .int .u8 ((Mo.n s.1 : Nat) : Int), .int .u8 ((Mo.d s.1 : Nat) : Int)], 123)] by rw [hw10, hg18]; exact HQ9.out)
  rw [← hw10, ← hg18]
  clear hw10 hg18 HQ9
  have b0 := HQ10.out.of 0 rfl
  have b1 := HQ10.out.of 1 rfl
  go_wp2_with (first | ((with_reducible show wpList _ _ _ (_ :: _) _ _); refine wpList_load_row rfl 123 _ rfl _ rfl _ _ _ _ b0 Try.underlying123 rfl (by exact size_mo) ?_; (try go_simp)) | ((with_reducible show wpList _ _ _ (_ :: _) _ _); refine wpList_load_row rfl 126 _ rfl _ rfl _ _ _ _ b1 Try.underlying126 rfl (by exact size_cf) ?_; (try go_simp)))
  refine (HT2.out _).mono ?_
  rintro e w11 ⟨rfl, hb⟩
  have HQ11 := Lib.hid ((HQ10.out.step hb).new #[.int .u8 ((Mo.m s.1 : Nat) : Int), .int .u16 ((Mo.s s.1 : Nat) : Int), .int .u8 ((Mo.c s.1 : Nat) : Int), .int .u8 ((Mo.n s.1 : Nat) : Int), .int .u8 ((Mo.d s.1 : Nat) : Int)] 129)
  clear hb b0 b1 HQ10 HT2
  go_upto_region 11 with ((with_reducible show wpList _ _ _ (_ :: _) _ _); refine wpList_store_row rfl 129 _ _ rfl _ _ rfl rfl _ _ (heap_alloc_new _ _) (by exact size_mr) (by rfl) (by simp [Value.oneCell']) ?_; rw [World.setRow_alloc_new])
  obtain ⟨w12, hw12⟩ : ∃ w1, w1 = w11.alloc (.cells #[.int .u8 ((Mo.m s.1 : Nat) : Int), .int .u16 ((Mo.s s.1 : Nat) : Int), .int .u8 ((Mo.c s.1 : Nat) : Int), .int .u8 ((Mo.n s.1 : Nat) : Int), .int .u8 ((Mo.d s.1 : Nat) : Int)] 129) := ⟨_, rfl⟩
  obtain ⟨g20, hg20⟩ : ∃ g, g = w11.heap.size := ⟨_, rfl⟩
  have HQ12 := Lib.hid (show Bq w w12 [(g6, #[.int .u8 ((Mo.m a : Nat) : Int), .int .u16 ((Mo.s a : Nat) : Int), .int .u8 ((Mo.c a : Nat) : Int), .int .u8 ((Mo.n a : Nat) : Int), .int .u8 ((Mo.d a : Nat) : Int)], 123), (g7, #[.int .u8 ((Cf.calm c : Nat) : Int), .int .u8 ((Cf.seen c : Nat) : Int), .int .u8 ((Cf.lost c : Nat) : Int), .int .u16 ((Cf.t c 0 : Nat) : Int), .int .u16 ((Cf.t c 1 : Nat) : Int), .int .u16 ((Cf.t c 2 : Nat) : Int), .int .u16 ((Cf.t c 3 : Nat) : Int)], 126), (g14, #[.int .u8 ((Mo.m r.1 : Nat) : Int), .int .u16 ((Mo.s r.1 : Nat) : Int), .int .u8 ((Mo.c r.1 : Nat) : Int), .int .u8 ((Mo.n r.1 : Nat) : Int), .int .u8 ((Mo.d r.1 : Nat) : Int)], 123), (g16, #[.int .u8 ((Mo.m r.1 : Nat) : Int), .int .u16 ((Mo.s r.1 : Nat) : Int), .int .u8 ((Mo.c r.1 : Nat) : Int), .int .u8 ((Mo.n r.1 : Nat) : Int), .int .u8 ((Mo.d r.1 : Nat) : Int)], 129), (g18, #[.int .u8 ((Mo.m s.1 : Nat) : Int), .int .u16 ((Mo.s s.1 : Nat) : Int), .int .u8 ((Mo.c s.1 : Nat) : Int), .int .u8 ((Mo.n s.1 : Nat) : Int), .int .u8 ((Mo.d s.1 : Nat) : Int)], 123), (g20, #[.int .u8 ((Mo.m s.1 : Nat) : Int), .int .u16 ((Mo.s s.1 : Nat) : Int), .int .u8 ((Mo.c s.1 : Nat) : Int), .int .u8 ((Mo.n s.1 : Nat) : Int), .int .u8 ((Mo.d s.1 : Nat) : Int)], 129)] by rw [hw12, hg20]; exact HQ11.out)
  rw [← hw12, ← hg20]
  clear hw12 hg20 HQ11
  go_upto_if 69 with fail
  go_cut [22] (fun q wx => q = .string (nmM k) ∧ Bq w wx [(g6, #[.int .u8 ((Mo.m a : Nat) : Int), .int .u16 ((Mo.s a : Nat) : Int), .int .u8 ((Mo.c a : Nat) : Int), .int .u8 ((Mo.n a : Nat) : Int), .int .u8 ((Mo.d a : Nat) : Int)], 123), (g7, #[.int .u8 ((Cf.calm c : Nat) : Int), .int .u8 ((Cf.seen c : Nat) : Int), .int .u8 ((Cf.lost c : Nat) : Int), .int .u16 ((Cf.t c 0 : Nat) : Int), .int .u16 ((Cf.t c 1 : Nat) : Int), .int .u16 ((Cf.t c 2 : Nat) : Int), .int .u16 ((Cf.t c 3 : Nat) : Int)], 126), (g14, #[.int .u8 ((Mo.m r.1 : Nat) : Int), .int .u16 ((Mo.s r.1 : Nat) : Int), .int .u8 ((Mo.c r.1 : Nat) : Int), .int .u8 ((Mo.n r.1 : Nat) : Int), .int .u8 ((Mo.d r.1 : Nat) : Int)], 123), (g16, #[.int .u8 ((Mo.m r.1 : Nat) : Int), .int .u16 ((Mo.s r.1 : Nat) : Int), .int .u8 ((Mo.c r.1 : Nat) : Int), .int .u8 ((Mo.n r.1 : Nat) : Int), .int .u8 ((Mo.d r.1 : Nat) : Int)], 129), (g18, #[.int .u8 ((Mo.m s.1 : Nat) : Int), .int .u16 ((Mo.s s.1 : Nat) : Int), .int .u8 ((Mo.c s.1 : Nat) : Int), .int .u8 ((Mo.n s.1 : Nat) : Int), .int .u8 ((Mo.d s.1 : Nat) : Int)], 123), (g20, #[.int .u8 ((Mo.m s.1 : Nat) : Int), .int .u16 ((Mo.s s.1 : Nat) : Int), .int .u8 ((Mo.c s.1 : Nat) : Int), .int .u8 ((Mo.n s.1 : Nat) : Int), .int .u8 ((Mo.d s.1 : Nat) : Int)], 129)])
  case first =>
    by_cases h4 : k < 4
    · rcases (by omega : k = 0 ∨ k = 1 ∨ k = 2 ∨ k = 3) with rfl | rfl | rfl | rfl
      all_goals
        go_wp2
        go_meet
        case rel => exact ⟨rfl, HQ12.out.step (by repeat' (first | (with_reducible exact Below.refl _ _) | (with_reducible assumption) | (with_reducible refine Below.setCell ?_ ?_ _) | (with_reducible refine Below.alloc ?_ ?_ _) | (with_reducible refine Below.drew ?_) | (with_reducible refine Below.drawsN ?_ _) | go_size))⟩
    · have hn := nmM_none (show 4 ≤ k by omega)
      have HN := Lib.hid hn
      clear hn
      go_wp2
      go_meet
      case rel => exact ⟨by rw [HN.out], HQ12.out⟩
  case rest =>
  obtain ⟨rfl, hq⟩ := hcut
  have HQ := Lib.hid hq
  clear hq HQ12
  obtain ⟨wj, hwj⟩ : ∃ wj, wj = wc := ⟨_, rfl⟩
  rw [← hwj] at HQ ⊢
  clear hwj
  obtain ⟨N, hN⟩ : ∃ N, N = nmM k := ⟨_, rfl⟩
  rw [← hN]
  have HNM := Lib.hid (fun w => NameM_any k w hk)
  rw [← hN] at HNM
  clear hN
  go_upto_region 14 with fail
  have hr2 := HR2.out
  have hc0 := HC.out.1
  have hc1 := HC.out.2.2.2 1 (by decide)
  have hc2 := HC.out.2.2.2 2 (by decide)
  have ha0 := HA.out.1
  have b6 := HQ.out.of 0 rfl
  have b7 := HQ.out.of 1 rfl
  have b14 := HQ.out.of 2 rfl
  have b16 := HQ.out.of 3 rfl
  have b18 := HQ.out.of 4 rfl
  have b20 := HQ.out.of 5 rfl
  have l6 := box_lt b6
  have l7 := box_lt b7
  have l14 := box_lt b14
  have l16 := box_lt b16
  have l18 := box_lt b18
  have l20 := box_lt b20
  obtain ⟨I, W, hne, hWI, hIW⟩ := Go.Mix.family (fun v => Below wj.heap.size wj v) (Below.refl _ _)
  have HJ := Lib.hid hIW
  have HW := Lib.hid hWI
  clear hWI hIW
  refine Go.Flo.wp_region (fun w' => ∃ i, w' = W i) 54 [Go.Flo.Spec.is (.agg #[.int .u8 0, .int .u16 0, .int .u8 0, .int .u8 0, .int .u8 0]), Go.Flo.Spec.is (.bool true), Go.Flo.Spec.is (.string N), Go.Flo.Spec.is (.int .i64 ((c.t 1 : Int) + (c.t 2 : Int) + (c.calm : Int)))] (by kernel_rfl) (by kernel_rfl) (by decide) (by rintro _ w' ⟨i, rfl⟩ hb; exact HJ.out _ ((HW.out i).trans (hb.mono (HW.out i).size))) (HJ.out _ (Below.refl _ _).drew) ?_
  simp only [Go.Flo.pair, Go.Mix.calm, List.take, List.drop, if_true, Bool.false_eq_true, if_false, Nat.reduceAdd, Nat.reduceSub]
  have he1 : ∀ w, (binOp .eql 129 (.agg #[.int .u8 ((Mo.m r.1 : Nat) : Int), .int .u16 ((Mo.s r.1 : Nat) : Int), .int .u8 ((Mo.c r.1 : Nat) : Int), .int .u8 ((Mo.n r.1 : Nat) : Int), .int .u8 ((Mo.d r.1 : Nat) : Int)]) (.agg #[.int .u8 ((Mo.m r.1 : Nat) : Int), .int .u16 ((Mo.s r.1 : Nat) : Int), .int .u8 ((Mo.c r.1 : Nat) : Int), .int .u8 ((Mo.n r.1 : Nat) : Int), .int .u8 ((Mo.d r.1 : Nat) : Int)])).run Try.prog w = .ok (.bool true) w := fun w => by rw [eqMr HRO.out HRO.out]; simp
  have he2 : ∀ w, (binOp .eql 129 (.agg #[.int .u8 ((Mo.m s.1 : Nat) : Int), .int .u16 ((Mo.s s.1 : Nat) : Int), .int .u8 ((Mo.c s.1 : Nat) : Int), .int .u8 ((Mo.n s.1 : Nat) : Int), .int .u8 ((Mo.d s.1 : Nat) : Int)]) (.agg #[.int .u8 ((Mo.m s.1 : Nat) : Int), .int .u16 ((Mo.s s.1 : Nat) : Int), .int .u8 ((Mo.c s.1 : Nat) : Int), .int .u8 ((Mo.n s.1 : Nat) : Int), .int .u8 ((Mo.d s.1 : Nat) : Int)])).run Try.prog w = .ok (.bool true) w := fun w => by rw [eqMr HSO.out HSO.out]; simp
  have he3 : ∀ w, (binOp .eql 123 (.agg #[.int .u8 0, .int .u16 0, .int .u8 0, .int .u8 0, .int .u8 0]) (.agg #[.int .u8 0, .int .u16 0, .int .u8 0, .int .u8 0, .int .u8 0])).run Try.prog w = .ok (.bool true) w := fun w => by
    show (binOp .eql 123 (.agg #[.int .u8 ((Mo.m moZ : Nat) : Int), .int .u16 ((Mo.s moZ : Nat) : Int), .int .u8 ((Mo.c moZ : Nat) : Int), .int .u8 ((Mo.n moZ : Nat) : Int), .int .u8 ((Mo.d moZ : Nat) : Int)]) (.agg #[.int .u8 ((Mo.m moZ : Nat) : Int), .int .u16 ((Mo.s moZ : Nat) : Int), .int .u8 ((Mo.c moZ : Nat) : Int), .int .u8 ((Mo.n moZ : Nat) : Int), .int .u8 ((Mo.d moZ : Nat) : Int)])).run Try.prog w = _
    rw [eqMo moZ_ok moZ_ok]; simp
  have y0 : ∀ i, (W i).cell? ⟨g7, 0, none⟩ = some (.int .u8 ((c.calm : Nat) : Int)) := fun i => ((HW.out i).cell (p := ⟨g7, 0, none⟩) l7).trans (cell_of_row _ _ 0 _ _ _ b7)
  have y4 : ∀ i, (W i).cell? ⟨g7, 4, none⟩ = some (.int .u16 ((c.t 1 : Nat) : Int)) := fun i => ((HW.out i).cell (p := ⟨g7, 4, none⟩) l7).trans (cell_of_row _ _ 4 _ _ _ b7)
  have y5 : ∀ i, (W i).cell? ⟨g7, 5, none⟩ = some (.int .u16 ((c.t 2 : Nat) : Int)) := fun i => ((HW.out i).cell (p := ⟨g7, 5, none⟩) l7).trans (cell_of_row _ _ 5 _ _ _ b7)
  repeat (first | (refine Go.Flo.fw_calm rfl ?_ (fun K hK => ?_); (first | exact Go.Mix.wanted_none rfl | exact Go.Mix.wanted_tt rfl rfl rfl | exact Go.Mix.wanted_ff rfl rfl rfl); refine Go.Flo.quiet_load_row 123 _ rfl _ rfl _ #[.int .u8 ((Mo.m r.1 : Nat) : Int), .int .u16 ((Mo.s r.1 : Nat) : Int), .int .u8 ((Mo.c r.1 : Nat) : Int), .int .u8 ((Mo.n r.1 : Nat) : Int), .int .u8 ((Mo.d r.1 : Nat) : Int)] _ (by rintro _ ⟨i, rfl⟩; exact ((HW.out i).block _ l14).trans b14) Try.underlying123 rfl size_mo ?_; go_simp; refine hK _ ?_; clear hK K) | (refine Go.Flo.fw_calm rfl ?_ (fun K hK => ?_); (first | exact Go.Mix.wanted_none rfl | exact Go.Mix.wanted_tt rfl rfl rfl | exact Go.Mix.wanted_ff rfl rfl rfl); refine Go.Flo.quiet_load_row 129 _ rfl _ rfl _ #[.int .u8 ((Mo.m r.1 : Nat) : Int), .int .u16 ((Mo.s r.1 : Nat) : Int), .int .u8 ((Mo.c r.1 : Nat) : Int), .int .u8 ((Mo.n r.1 : Nat) : Int), .int .u8 ((Mo.d r.1 : Nat) : Int)] _ (by rintro _ ⟨i, rfl⟩; exact ((HW.out i).block _ l16).trans b16) Try.underlying129 rfl size_mr ?_; go_simp; refine hK _ ?_; clear hK K) | (refine Go.Flo.fw_calm rfl ?_ (fun K hK => ?_); (first | exact Go.Mix.wanted_none rfl | exact Go.Mix.wanted_tt rfl rfl rfl | exact Go.Mix.wanted_ff rfl rfl rfl); refine Go.Flo.quiet_load_row 123 _ rfl _ rfl _ #[.int .u8 ((Mo.m s.1 : Nat) : Int), .int .u16 ((Mo.s s.1 : Nat) : Int), .int .u8 ((Mo.c s.1 : Nat) : Int), .int .u8 ((Mo.n s.1 : Nat) : Int), .int .u8 ((Mo.d s.1 : Nat) : Int)] _ (by rintro _ ⟨i, rfl⟩; exact ((HW.out i).block _ l18).trans b18) Try.underlying123 rfl size_mo ?_; go_simp; refine hK _ ?_; clear hK K) | (refine Go.Flo.fw_calm rfl ?_ (fun K hK => ?_); (first | exact Go.Mix.wanted_none rfl | exact Go.Mix.wanted_tt rfl rfl rfl | exact Go.Mix.wanted_ff rfl rfl rfl); refine Go.Flo.quiet_load_row 129 _ rfl _ rfl _ #[.int .u8 ((Mo.m s.1 : Nat) : Int), .int .u16 ((Mo.s s.1 : Nat) : Int), .int .u8 ((Mo.c s.1 : Nat) : Int), .int .u8 ((Mo.n s.1 : Nat) : Int), .int .u8 ((Mo.d s.1 : Nat) : Int)] _ (by rintro _ ⟨i, rfl⟩; exact ((HW.out i).block _ l20).trans b20) Try.underlying129 rfl size_mr ?_; go_simp; refine hK _ ?_; clear hK K) | (refine Go.Flo.fw_calm rfl ?_ (fun K hK => ?_); (first | exact Go.Mix.wanted_none rfl | exact Go.Mix.wanted_tt rfl rfl rfl | exact Go.Mix.wanted_ff rfl rfl rfl); refine Go.Flo.quiet_load_row 123 _ rfl _ rfl _ #[.int .u8 ((Mo.m a : Nat) : Int), .int .u16 ((Mo.s a : Nat) : Int), .int .u8 ((Mo.c a : Nat) : Int), .int .u8 ((Mo.n a : Nat) : Int), .int .u8 ((Mo.d a : Nat) : Int)] _ (by rintro _ ⟨i, rfl⟩; exact ((HW.out i).block _ l6).trans b6) Try.underlying123 rfl size_mo ?_; go_simp; refine hK _ ?_; clear hK K) | (refine Go.Flo.fw_loud rfl ?_ rfl (by simp) (fun wv hwv hav K hK => ?_) (fun v hv K hK => ?_); (· (first | exact Go.Mix.wanted_none rfl | exact Go.Mix.wanted_tt rfl rfl rfl | exact Go.Mix.wanted_ff rfl rfl rfl)); (· obtain ⟨iv, rfl⟩ := hwv; have hbv := HW.out iv; (first | go_big_op | go_simp); go_at_call 71; refine (Fall_any a _).mono ?_; rintro e w' ⟨rfl, hb⟩; skip; exact hK _ _ (Go.Flo.owes_is _ rfl hb)); (obtain rfl := hv.is; go_simp; refine hK _ ?_; clear hK K hv)) | (first | (refine Go.Flo.fw_calm rfl ?_ (fun K hK => ?_); (first | exact Go.Mix.wanted_none rfl | exact Go.Mix.wanted_tt rfl rfl rfl | exact Go.Mix.wanted_ff rfl rfl rfl); go_big_quiet_op; refine hK _ ?_; clear hK K) | (refine Go.Flo.fw_skip ?_ (fun K hK => ?_); (first | exact Go.Mix.wanted_tf rfl rfl rfl | exact Go.Mix.wanted_ft rfl rfl rfl); go_simp; refine hK _ ?_; clear hK K) | (refine Go.Flo.fw_any rfl ?_ (fun K hK => ?_); (first | exact Go.Mix.wanted_none rfl | exact Go.Mix.wanted_tt rfl rfl rfl | exact Go.Mix.wanted_ff rfl rfl rfl); go_simp; (try (go_ints; try go_simp)); refine hK _ ?_; clear hK K)))
  have hrm : decide (r.1.m < 4) = true := decide_eq_true HRO.out.1
  have HRM := Lib.hid hrm
  have hrm2 : r.1.m < 256 := Nat.lt_trans HRO.out.1 (by decide)
  have HRR := Lib.hid (fun w => RightM_any r.1 w hrm2)
  have HBB := Lib.hid (fun w => Bound_any c w HC.out)
  rw [show ((c.t 1 + c.t 2 + c.calm : Nat) : Int) = (c.t 1 : Int) + (c.t 2 : Int) + (c.calm : Int) by push_cast; rfl] at HBB
  clear hrm
  refine Go.Flo.fw_loud rfl ?_ rfl (by simp) (fun wv hwv hav K hK => ?_) (fun v hv K hK => ?_)
  · (first | exact Go.Mix.wanted_none rfl | exact Go.Mix.wanted_tt rfl rfl rfl | exact Go.Mix.wanted_ff rfl rfl rfl)
  · obtain ⟨iv, rfl⟩ := hwv
    have hbv := HW.out iv
    (first | go_big_op | go_simp)
    go_at_call 66
    refine (HRR.out _).mono ?_
    rintro e w' ⟨rfl, hb⟩
    rw [HRM.out]
    exact hK _ _ (Go.Flo.owes_is _ rfl hb)
  obtain rfl := hv.is
  go_simp
  refine hK _ ?_
  clear hK K hv
  (repeat (first | (refine Go.Flo.fw_calm rfl ?_ (fun K hK => ?_); (first | exact Go.Mix.wanted_none rfl | exact Go.Mix.wanted_tt rfl rfl rfl | exact Go.Mix.wanted_ff rfl rfl rfl); go_big_quiet_op; refine hK _ ?_; clear hK K) | (refine Go.Flo.fw_skip ?_ (fun K hK => ?_); (first | exact Go.Mix.wanted_tf rfl rfl rfl | exact Go.Mix.wanted_ft rfl rfl rfl); go_simp; refine hK _ ?_; clear hK K) | (refine Go.Flo.fw_any rfl ?_ (fun K hK => ?_); (first | exact Go.Mix.wanted_none rfl | exact Go.Mix.wanted_tt rfl rfl rfl | exact Go.Mix.wanted_ff rfl rfl rfl); go_simp; (try (go_ints; try go_simp)); refine hK _ ?_; clear hK K)))
  refine Go.Flo.fw_loud rfl ?_ rfl (by simp) (fun wv hwv hav K hK => ?_) (fun v hv K hK => ?_)
  · (first | exact Go.Mix.wanted_none rfl | exact Go.Mix.wanted_tt rfl rfl rfl | exact Go.Mix.wanted_ff rfl rfl rfl)
  · obtain ⟨iv, rfl⟩ := hwv
    have hbv := HW.out iv
    (first | go_big_op | go_simp)
    go_at_call 72
    refine (HNM.out _).mono ?_
    rintro e w' ⟨rfl, rfl⟩
    exact hK _ _ (Go.Flo.owes_is _ rfl (Below.refl _ _))
  obtain rfl := hv.is
  go_simp
  refine hK _ ?_
  clear hK K hv
  repeat (first | (refine Go.Flo.fw_calm rfl ?_ (fun K hK => ?_); (first | exact Go.Mix.wanted_none rfl | exact Go.Mix.wanted_tt rfl rfl rfl | exact Go.Mix.wanted_ff rfl rfl rfl); refine Go.Flo.quiet_load_row 126 _ rfl _ rfl _ #[.int .u8 ((Cf.calm c : Nat) : Int), .int .u8 ((Cf.seen c : Nat) : Int), .int .u8 ((Cf.lost c : Nat) : Int), .int .u16 ((Cf.t c 0 : Nat) : Int), .int .u16 ((Cf.t c 1 : Nat) : Int), .int .u16 ((Cf.t c 2 : Nat) : Int), .int .u16 ((Cf.t c 3 : Nat) : Int)] _ (by rintro _ ⟨i, rfl⟩; exact ((HW.out i).block _ l7).trans b7) Try.underlying126 rfl size_cf ?_; go_simp; refine hK _ ?_; clear hK K) | (first | (refine Go.Flo.fw_calm rfl ?_ (fun K hK => ?_); (first | exact Go.Mix.wanted_none rfl | exact Go.Mix.wanted_tt rfl rfl rfl | exact Go.Mix.wanted_ff rfl rfl rfl); go_big_quiet_op; refine hK _ ?_; clear hK K) | (refine Go.Flo.fw_skip ?_ (fun K hK => ?_); (first | exact Go.Mix.wanted_tf rfl rfl rfl | exact Go.Mix.wanted_ft rfl rfl rfl); go_simp; refine hK _ ?_; clear hK K) | (refine Go.Flo.fw_any rfl ?_ (fun K hK => ?_); (first | exact Go.Mix.wanted_none rfl | exact Go.Mix.wanted_tt rfl rfl rfl | exact Go.Mix.wanted_ff rfl rfl rfl); go_simp; (try (go_ints; try go_simp)); refine hK _ ?_; clear hK K)))
  refine Go.Flo.fw_loud rfl ?_ rfl (by simp) (fun wv hwv hav K hK => ?_) (fun v hv K hK => ?_)
  · (first | exact Go.Mix.wanted_none rfl | exact Go.Mix.wanted_tt rfl rfl rfl | exact Go.Mix.wanted_ff rfl rfl rfl)
  · obtain ⟨iv, rfl⟩ := hwv
    have hbv := HW.out iv
    (first | go_big_op | go_simp)
    go_at_call 73
    refine (HBB.out _).mono ?_
    rintro e w' ⟨rfl, hb⟩
    exact hK _ _ (Go.Flo.owes_is _ rfl hb)
  obtain rfl := hv.is
  go_simp
  refine hK _ ?_
  clear hK K hv
  (repeat (first | (refine Go.Flo.fw_calm rfl ?_ (fun K hK => ?_); (first | exact Go.Mix.wanted_none rfl | exact Go.Mix.wanted_tt rfl rfl rfl | exact Go.Mix.wanted_ff rfl rfl rfl); go_big_quiet_op; refine hK _ ?_; clear hK K) | (refine Go.Flo.fw_skip ?_ (fun K hK => ?_); (first | exact Go.Mix.wanted_tf rfl rfl rfl | exact Go.Mix.wanted_ft rfl rfl rfl); go_simp; refine hK _ ?_; clear hK K) | (refine Go.Flo.fw_any rfl ?_ (fun K hK => ?_); (first | exact Go.Mix.wanted_none rfl | exact Go.Mix.wanted_tt rfl rfl rfl | exact Go.Mix.wanted_ff rfl rfl rfl); go_simp; (try (go_ints; try go_simp)); refine hK _ ?_; clear hK K)))
  refine Go.Flo.fw_nil ?_
  intro wk hwwk hfwk huwk
  refine Go.Flo.tw_nil ?_
  obtain ⟨iend, hiend⟩ := hwwk
  have hbwk := HW.out iend
  rw [← hiend] at hbwk
  clear hiend iend huwk
  have HQ9 := Lib.hid (HQ.out.step hbwk)
  clear hfwk HJ HW hne hbwk he1 he2 he3 y0 y4 y5 b6 b7 b14 b16 b18 b20 l6 l7 l14 l16 l18 l20 HQ
  clear W I
  go_wp2_with fail
  go_ret
  exact ⟨rfl, HQ9.out.be⟩
end Go.Proofs.Ytnjkpamjjdkmoaa
