/- Layer 24: the document's Step, by what is calm and seen. -/
import Derived.Test.YtnjkpamjjdkmoaaMd3
namespace Go.Proofs.Ytnjkpamjjdkmoaa
open Go.RowKit Go.Own
set_option linter.unusedVariables false
set_option linter.unusedSimpArgs false
set_option maxRecDepth 100000 in
set_option maxHeartbeats 8000000 in
theorem rStep_tf (a : Mo) (c : Cf) (safe : Bool) (w : World) (ha : a.Ok) (hc : c.Ok) : Calls Try.prog 68 #[.agg #[.int .u8 ((Mo.m a : Nat) : Int), .int .u16 ((Mo.s a : Nat) : Int), .int .u8 ((Mo.c a : Nat) : Int), .int .u8 ((Mo.n a : Nat) : Int), .int .u8 ((Mo.d a : Nat) : Int)], .agg #[.int .u8 ((Cf.calm c : Nat) : Int), .int .u8 ((Cf.seen c : Nat) : Int), .int .u8 ((Cf.lost c : Nat) : Int), .int .u16 ((Cf.t c 0 : Nat) : Int), .int .u16 ((Cf.t c 1 : Nat) : Int), .int .u16 ((Cf.t c 2 : Nat) : Int), .int .u16 ((Cf.t c 3 : Nat) : Int)], .bool true, .bool false, .bool safe] w fun e w' => e = .returned (.tuple #[.agg #[.int .u8 ((Mo.m (stepM a c true false safe).1 : Nat) : Int), .int .u16 ((Mo.s (stepM a c true false safe).1 : Nat) : Int), .int .u8 ((Mo.c (stepM a c true false safe).1 : Nat) : Int), .int .u8 ((Mo.n (stepM a c true false safe).1 : Nat) : Int), .int .u8 ((Mo.d (stepM a c true false safe).1 : Nat) : Int)], .int .i64 (((stepM a c true false safe).2 : Nat) : Int)]) ∧ Below w.heap.size w w' := by
  have hz := zero_mr
  obtain ⟨R, hR⟩ : ∃ R, stepM a c true false safe = R := ⟨_, rfl⟩
  rw [hR]
  have HR := Lib.hid hR
  clear hR
  have hq := (((Bq.nil w).new #[.int .u8 ((Mo.m a : Nat) : Int), .int .u16 ((Mo.s a : Nat) : Int), .int .u8 ((Mo.c a : Nat) : Int), .int .u8 ((Mo.n a : Nat) : Int), .int .u8 ((Mo.d a : Nat) : Int)] 129).new #[.int .u8 ((Cf.calm c : Nat) : Int), .int .u8 ((Cf.seen c : Nat) : Int), .int .u8 ((Cf.lost c : Nat) : Int), .int .u16 ((Cf.t c 0 : Nat) : Int), .int .u16 ((Cf.t c 1 : Nat) : Int), .int .u16 ((Cf.t c 2 : Nat) : Int), .int .u16 ((Cf.t c 3 : Nat) : Int)] 132).new #[.int .u8 0, .int .u16 0, .int .u8 0, .int .u8 0, .int .u8 0] 129
  go_enter Try.func68, Try.ntmps68
  go_upto_region 1 with fail
  simp only [World.size_alloc] at hq
  obtain ⟨w1, hw1⟩ : ∃ w1, w1 = ((w.alloc (.cells #[.int .u8 ((Mo.m a : Nat) : Int), .int .u16 ((Mo.s a : Nat) : Int), .int .u8 ((Mo.c a : Nat) : Int), .int .u8 ((Mo.n a : Nat) : Int), .int .u8 ((Mo.d a : Nat) : Int)] 129)).alloc (.cells #[.int .u8 ((Cf.calm c : Nat) : Int), .int .u8 ((Cf.seen c : Nat) : Int), .int .u8 ((Cf.lost c : Nat) : Int), .int .u16 ((Cf.t c 0 : Nat) : Int), .int .u16 ((Cf.t c 1 : Nat) : Int), .int .u16 ((Cf.t c 2 : Nat) : Int), .int .u16 ((Cf.t c 3 : Nat) : Int)] 132)).alloc (.cells #[.int .u8 0, .int .u16 0, .int .u8 0, .int .u8 0, .int .u8 0] 129) := ⟨_, rfl⟩
  rw [← hw1] at hq ⊢
  have HQ1 := Lib.hid (show Bq w w1 [(w.heap.size, #[.int .u8 ((Mo.m a : Nat) : Int), .int .u16 ((Mo.s a : Nat) : Int), .int .u8 ((Mo.c a : Nat) : Int), .int .u8 ((Mo.n a : Nat) : Int), .int .u8 ((Mo.d a : Nat) : Int)], 129), (w.heap.size + 1, #[.int .u8 ((Cf.calm c : Nat) : Int), .int .u8 ((Cf.seen c : Nat) : Int), .int .u8 ((Cf.lost c : Nat) : Int), .int .u16 ((Cf.t c 0 : Nat) : Int), .int .u16 ((Cf.t c 1 : Nat) : Int), .int .u16 ((Cf.t c 2 : Nat) : Int), .int .u16 ((Cf.t c 3 : Nat) : Int)], 132), (w.heap.size + 1 + 1, #[.int .u8 0, .int .u16 0, .int .u8 0, .int .u8 0, .int .u8 0], 129)] from hq)
  clear hq hw1
  have c0 := cell_of_row _ _ 0 _ _ _ (HQ1.out.of 0 rfl)
  cases safe
  · rw [stepM_on c true false (fun h => by cases h)] at HR
    skip
    go_upto_region 3 with fail
    clear c0
    have c1 := cell_of_row _ _ 1 _ _ _ (HQ1.out.of 0 rfl)
    have f1 := frozen_of_row _ _ 1 _ _ (HQ1.out.of 0 rfl)
    obtain ⟨hm, hs, hcc, hn, hd⟩ := ha
    have hux := upM_le (show a.s ≤ 65535 by omega)
    obtain ⟨x1, hx1⟩ : ∃ x, upM a.s 65535 = x := ⟨_, rfl⟩
    have HU := Lib.hid (rUp_s a.s · (by omega))
    rw [hx1] at HU hux
    have HV := Lib.hid (HQ1.out.set 0 rfl 1 (.int .u16 (x1 : Nat)))
    have hx2 : x1 < 65536 := by omega
    clear hux
    have HX1 := Lib.hid hx1
    clear hx1
    go_upto_region 4 with (go_at_call 123; with_reducible refine (HU.out _).mono ?_; rintro e w' ⟨rfl, rfl⟩)
    obtain ⟨w2, hw2⟩ : ∃ w2, w2 = w1.setCell ⟨w.heap.size, 1, none⟩ (.int .u16 (x1 : Nat)) := ⟨_, rfl⟩
    have HQ2 := Lib.hid (show Bq w w2 [(w.heap.size, #[.int .u8 ((a.m : Nat) : Int), .int .u16 ((x1 : Nat) : Int), .int .u8 ((a.c : Nat) : Int), .int .u8 ((a.n : Nat) : Int), .int .u8 ((a.d : Nat) : Int)], 129), (w.heap.size + 1, #[.int .u8 ((Cf.calm c : Nat) : Int), .int .u8 ((Cf.seen c : Nat) : Int), .int .u8 ((Cf.lost c : Nat) : Int), .int .u16 ((Cf.t c 0 : Nat) : Int), .int .u16 ((Cf.t c 1 : Nat) : Int), .int .u16 ((Cf.t c 2 : Nat) : Int), .int .u16 ((Cf.t c 3 : Nat) : Int)], 132), (w.heap.size + 1 + 1, #[.int .u8 0, .int .u16 0, .int .u8 0, .int .u8 0, .int .u8 0], 129)] by rw [hw2]; exact HV.out)
    rw [← hw2]
    clear hw2 HV HU c1 f1 HQ1
    have HUc := Lib.hid (rUp_b a.c · hcc)
    have HUn := Lib.hid (rUp_b a.n · hn)
    have HUd := Lib.hid (rUp_b a.d · hd)
    have h2 := upM_le (show a.c ≤ 255 by omega)
    have h3 := upM_le (show a.n ≤ 255 by omega)
    have h4 := upM_le (show a.d ≤ 255 by omega)
    obtain ⟨x2, hx2e⟩ : ∃ x, upM a.c 255 = x := ⟨_, rfl⟩
    obtain ⟨x3, hx3e⟩ : ∃ x, upM a.n 255 = x := ⟨_, rfl⟩
    obtain ⟨x4, hx4e⟩ : ∃ x, upM a.d 255 = x := ⟨_, rfl⟩
    rw [hx2e] at HUc h2
    rw [hx3e] at HUn h3
    rw [hx4e] at HUd h4
    have b0 := HQ2.out.of 0 rfl
    have c2 := cell_of_row _ _ 2 _ _ _ b0
    have c3 := cell_of_row _ _ 3 _ _ _ b0
    have c4 := cell_of_row _ _ 4 _ _ _ b0
    have HCN := Lib.hid (show cnt a true false = ⟨a.m, x1, x2, 0, x4⟩ by unfold cnt; simp only [hx2e, hx3e, hx4e, HX1.out]; rfl)
    clear b0 hx2e hx3e hx4e HX1
    have EC := Lib.hid (show IntKind.i64.wrap (a.c : Int) = a.c by rw [IntKind.wrap_i64]; omega)
    have EN := Lib.hid (show IntKind.i64.wrap (a.n : Int) = a.n by rw [IntKind.wrap_i64]; omega)
    have ED := Lib.hid (show IntKind.i64.wrap (a.d : Int) = a.d by rw [IntKind.wrap_i64]; omega)
    go_quiet ((first | (go_at_call 123; with_reducible show Calls _ _ #[.int .i64 ((Mo.c a : Nat) : Int), _] _ _; exact quiet_eqM (HUc.out _)) | (go_at_call 123; with_reducible show Calls _ _ #[.int .i64 ((Mo.n a : Nat) : Int), _] _ _; exact quiet_eqM (HUn.out _)) | (go_at_call 123; with_reducible show Calls _ _ #[.int .i64 ((Mo.d a : Nat) : Int), _] _ _; exact quiet_eqM (HUd.out _))))
    have HQ3 := Lib.hid (HQ2.out.step (bel_drewV w2 nq))
    obtain ⟨w3, hw3⟩ : ∃ w3, w3 = w2.drewN nq := ⟨_, rfl⟩
    rw [← hw3] at HQ3 ⊢
    clear hw3 c2 c3 c4 EC EN ED HUc HUn HUd HQ2
    rw [HCN.out] at HR
    have k2 : x2 < 256 := by omega
    have k3 : 0 < 256 := by omega
    have k4 : x4 < 256 := by omega
    clear h2 h3 h4 HCN
    have r0 := HQ3.out.of 0 rfl
    have c2 := cell_of_row _ _ 2 _ _ _ r0
    have f2 := frozen_of_row _ _ 2 _ _ r0
    have c3 := cell_of_row _ _ 3 _ _ _ r0
    have f3 := frozen_of_row _ _ 3 _ _ r0
    have c4 := cell_of_row _ _ 4 _ _ _ r0
    have f4 := frozen_of_row _ _ 4 _ _ r0
    have HV := Lib.hid (((HQ3.out.set 0 rfl 2 (.int .u8 (x2 : Nat))).set 0 rfl 3 (.int .u8 0)).set 0 rfl 4 (.int .u8 (x4 : Nat)))
    clear r0
    go_upto_region 11 with fail
    clear c2 f2 c3 f3 c4 f4
    obtain ⟨w4, hw4⟩ : ∃ w4, w4 = ((w3.setCell ⟨w.heap.size, 2, none⟩ (.int .u8 (x2 : Nat))).setCell ⟨w.heap.size, 3, none⟩ (.int .u8 0)).setCell ⟨w.heap.size, 4, none⟩ (.int .u8 (x4 : Nat)) := ⟨_, rfl⟩
    obtain ⟨b, hbe⟩ : ∃ b : Mo, b = ⟨a.m, x1, x2, 0, x4⟩ := ⟨_, rfl⟩
    have HQ := Lib.hid (show Bq w w4 [(w.heap.size, #[.int .u8 ((Mo.m b : Nat) : Int), .int .u16 ((Mo.s b : Nat) : Int), .int .u8 ((Mo.c b : Nat) : Int), .int .u8 ((Mo.n b : Nat) : Int), .int .u8 ((Mo.d b : Nat) : Int)], 129), (w.heap.size + 1, #[.int .u8 ((Cf.calm c : Nat) : Int), .int .u8 ((Cf.seen c : Nat) : Int), .int .u8 ((Cf.lost c : Nat) : Int), .int .u16 ((Cf.t c 0 : Nat) : Int), .int .u16 ((Cf.t c 1 : Nat) : Int), .int .u16 ((Cf.t c 2 : Nat) : Int), .int .u16 ((Cf.t c 3 : Nat) : Int)], 132), (w.heap.size + 1 + 1, #[.int .u8 0, .int .u16 0, .int .u8 0, .int .u8 0, .int .u8 0], 129)] by rw [hw4, hbe]; exact HV.out)
    rw [← hbe] at HR
    rw [← hw4]
    have hm4 : b.m < 4 := by rw [hbe]; exact hm
    have hbam : b.m = a.m := by rw [hbe]
    have HBA := Lib.hid hbam
    clear hw4 HV HQ3 hbe hm hbam
    obtain ⟨bm, hbm⟩ : ∃ n, b.m = n := ⟨_, rfl⟩
    have c0 : w4.cell? ⟨w.heap.size, 0, none⟩ = some (.int .u8 (bm : Nat)) := by rw [← hbm]; exact cell_of_row _ _ 0 _ _ _ (HQ.out.of 0 rfl)
    have HM := Lib.hid hbm
    rw [hbm] at hm4
    clear hbm
    skip
    rcases (by omega : bm = 0 ∨ bm = 1 ∨ bm = 2 ∨ bm = 3) with rfl | rfl | rfl | rfl
    · skip
      have hR : R = (b, 0) := by
        rw [← HR.out, show calmB b c = false from decide_eq_false (by have := HM.out; omega), show darkB b c = false from decide_eq_false (by have := HM.out; omega), show lateB b c = false from decide_eq_false (by have := HM.out; omega)]; rfl
      have HR := Lib.hid hR.symm
      clear hR
      skip
      go_upto_region 18 with fail
      clear c0
      (try clear c1)
      (try clear c2)
      (try clear c3)
      (try clear c4)
      (try clear d0)
      (try clear d1)
      (try clear d2)
      (try clear d4)
      (try clear d5)
      skip
      have hq := HQ.out.put 2 rfl #[.int .u8 ((Mo.m b : Nat) : Int), .int .u16 ((Mo.s b : Nat) : Int), .int .u8 ((Mo.c b : Nat) : Int), .int .u8 ((Mo.n b : Nat) : Int), .int .u8 ((Mo.d b : Nat) : Int)]
      have HB2 := Lib.hid (hq.of 2 rfl)
      have HB := Lib.hid hq.be
      have b2 := HQ.out.of 2 rfl
      have b0 := HQ.out.of 0 rfl
      clear hq
      (try clear g1)
      (try clear g2)
      (try clear g3)
      (try clear g4)
      go_wp2_with (first | ((with_reducible show wpList _ _ _ (_ :: _) _ _); refine wpList_load_row rfl 129 _ rfl _ rfl _ _ _ _ b0 Try.underlying129 rfl (by exact size_mr) ?_; (try go_simp)) | ((with_reducible show wpList _ _ _ (_ :: _) _ _); refine wpList_store_row rfl 129 _ _ rfl _ _ rfl rfl _ _ b2 (by exact size_mr) (by rfl) (by simp [Value.oneCell']) ?_))
      skip
      show bodyPost Try.prog Try.f68 _ _ _ _
      refine bodyPost_ret (results_ct rfl _ _ _ _ _ _ rfl HB2.out Try.underlying129 rfl (by exact size_mr)) rfl ?_
      exact ⟨by rw [← HR.out]; rfl, HB.out⟩
    · have d0 : w4.cell? ⟨w.heap.size + 1, 0, none⟩ = some (.int .u8 ((c.calm : Nat) : Int)) := cell_of_row _ _ 0 _ _ _ (HQ.out.of 1 rfl)
      have c2 : w4.cell? ⟨w.heap.size, 2, none⟩ = some (.int .u8 ((b.c : Nat) : Int)) := cell_of_row _ _ 2 _ _ _ (HQ.out.of 0 rfl)
      rcases (by omega : (0 < c.calm ∧ c.calm ≤ b.c) ∨ c.calm = 0 ∨ (0 < c.calm ∧ b.c < c.calm)) with ⟨g1, g2⟩ | g1 | ⟨g1, g2⟩
      · have hR : R = (moS, 2) := by
          rw [← HR.out, show calmB b c = true from decide_eq_true ⟨HM.out, g1, g2⟩]; rfl
        have HR := Lib.hid hR.symm
        clear hR
        skip
        go_upto_region 12 with fail
        clear c0
        (try clear c1)
        (try clear c2)
        (try clear c3)
        (try clear c4)
        (try clear d0)
        (try clear d1)
        (try clear d2)
        (try clear d4)
        (try clear d5)
        skip
        have hq := HQ.out.put 2 rfl #[.int .u8 2, .int .u16 0, .int .u8 0, .int .u8 0, .int .u8 0]
        have HB2 := Lib.hid (hq.of 2 rfl)
        have HB := Lib.hid hq.be
        have b2 := HQ.out.of 2 rfl
        have b0 := HQ.out.of 0 rfl
        clear hq
        (try clear g1)
        (try clear g2)
        (try clear g3)
        (try clear g4)
        go_wp2_with ((with_reducible show wpList _ _ _ (_ :: _) _ _); refine wpList_store_row rfl 129 _ _ rfl _ _ rfl rfl _ _ b2 (by exact size_mr) (by rfl) (by simp [Value.oneCell']) ?_)
        skip
        show bodyPost Try.prog Try.f68 _ _ _ _
        refine bodyPost_ret (results_ct rfl _ _ _ _ _ _ rfl HB2.out Try.underlying129 rfl (by exact size_mr)) rfl ?_
        exact ⟨by rw [← HR.out]; rfl, HB.out⟩
      all_goals
        have c1 : w4.cell? ⟨w.heap.size, 1, none⟩ = some (.int .u16 ((b.s : Nat) : Int)) := cell_of_row _ _ 1 _ _ _ (HQ.out.of 0 rfl)
        have d4 : w4.cell? ⟨w.heap.size + 1, 4, none⟩ = some (.int .u16 ((c.t 1 : Nat) : Int)) := cell_of_row _ _ 4 _ _ _ (HQ.out.of 1 rfl)
        have l1 : lateB b c = decide (0 < c.t 1 ∧ c.t 1 ≤ b.s) := by unfold lateB; rw [HM.out]; exact decide_eq_decide.2 (by simp)
        have L1 := Lib.hid l1
        clear l1
        rcases (by omega : c.t 1 = 0 ∨ (0 < c.t 1 ∧ c.t 1 ≤ b.s) ∨ (0 < c.t 1 ∧ b.s < c.t 1)) with g3 | ⟨g3, g4⟩ | ⟨g3, g4⟩
        · skip
          have hR : R = (b, 0) := by
            have := HM.out
            rw [← HR.out, show calmB b c = false from decide_eq_false (by omega), show darkB b c = false from decide_eq_false (by omega), show lateB b c = false from L1.out.trans (decide_eq_false (by omega))]; rfl
          have HR := Lib.hid hR.symm
          clear hR
          skip
          go_upto_region 16 with fail
          go_quiet (fail)
          have HQ' := Lib.hid (HQ.out.step (bel_drewV w4 nq))
          obtain ⟨w5, hw5⟩ : ∃ w5, w5 = w4.drewN nq := ⟨_, rfl⟩
          rw [← hw5] at HQ' ⊢
          clear hw5 HQ
          have HQ := HQ'
          clear HQ'
          skip
          go_upto_region 18 with fail
          clear c0
          (try clear c1)
          (try clear c2)
          (try clear c3)
          (try clear c4)
          (try clear d0)
          (try clear d1)
          (try clear d2)
          (try clear d4)
          (try clear d5)
          skip
          have hq := HQ.out.put 2 rfl #[.int .u8 ((Mo.m b : Nat) : Int), .int .u16 ((Mo.s b : Nat) : Int), .int .u8 ((Mo.c b : Nat) : Int), .int .u8 ((Mo.n b : Nat) : Int), .int .u8 ((Mo.d b : Nat) : Int)]
          have HB2 := Lib.hid (hq.of 2 rfl)
          have HB := Lib.hid hq.be
          have b2 := HQ.out.of 2 rfl
          have b0 := HQ.out.of 0 rfl
          clear hq
          (try clear g1)
          (try clear g2)
          (try clear g3)
          (try clear g4)
          go_wp2_with (first | ((with_reducible show wpList _ _ _ (_ :: _) _ _); refine wpList_load_row rfl 129 _ rfl _ rfl _ _ _ _ b0 Try.underlying129 rfl (by exact size_mr) ?_; (try go_simp)) | ((with_reducible show wpList _ _ _ (_ :: _) _ _); refine wpList_store_row rfl 129 _ _ rfl _ _ rfl rfl _ _ b2 (by exact size_mr) (by rfl) (by simp [Value.oneCell']) ?_))
          skip
          show bodyPost Try.prog Try.f68 _ _ _ _
          refine bodyPost_ret (results_ct rfl _ _ _ _ _ _ rfl HB2.out Try.underlying129 rfl (by exact size_mr)) rfl ?_
          exact ⟨by rw [← HR.out]; rfl, HB.out⟩
        · skip
          have hR : R = (moZ, 3) := by
            have := HM.out
            rw [← HR.out, show calmB b c = false from decide_eq_false (by omega), show darkB b c = false from decide_eq_false (by omega), show lateB b c = true from L1.out.trans (decide_eq_true ⟨g3, g4⟩)]; rfl
          have HR := Lib.hid hR.symm
          clear hR
          skip
          go_upto_region 16 with fail
          go_quiet (fail)
          have HQ' := Lib.hid (HQ.out.step (bel_drewV w4 nq))
          obtain ⟨w5, hw5⟩ : ∃ w5, w5 = w4.drewN nq := ⟨_, rfl⟩
          rw [← hw5] at HQ' ⊢
          clear hw5 HQ
          have HQ := HQ'
          clear HQ'
          skip
          go_upto_region 17 with fail
          clear c0
          (try clear c1)
          (try clear c2)
          (try clear c3)
          (try clear c4)
          (try clear d0)
          (try clear d1)
          (try clear d2)
          (try clear d4)
          (try clear d5)
          skip
          have hq := HQ.out.put 2 rfl #[.int .u8 0, .int .u16 0, .int .u8 0, .int .u8 0, .int .u8 0]
          have HB2 := Lib.hid (hq.of 2 rfl)
          have HB := Lib.hid hq.be
          have b2 := HQ.out.of 2 rfl
          have b0 := HQ.out.of 0 rfl
          clear hq
          (try clear g1)
          (try clear g2)
          (try clear g3)
          (try clear g4)
          go_wp2_with ((with_reducible show wpList _ _ _ (_ :: _) _ _); refine wpList_store_row rfl 129 _ _ rfl _ _ rfl rfl _ _ b2 (by exact size_mr) (by rfl) (by simp [Value.oneCell']) ?_)
          skip
          show bodyPost Try.prog Try.f68 _ _ _ _
          refine bodyPost_ret (results_ct rfl _ _ _ _ _ _ rfl HB2.out Try.underlying129 rfl (by exact size_mr)) rfl ?_
          exact ⟨by rw [← HR.out]; rfl, HB.out⟩
        · skip
          have hR : R = (b, 0) := by
            have := HM.out
            rw [← HR.out, show calmB b c = false from decide_eq_false (by omega), show darkB b c = false from decide_eq_false (by omega), show lateB b c = false from L1.out.trans (decide_eq_false (by omega))]; rfl
          have HR := Lib.hid hR.symm
          clear hR
          skip
          go_upto_region 16 with fail
          go_quiet (fail)
          have HQ' := Lib.hid (HQ.out.step (bel_drewV w4 nq))
          obtain ⟨w5, hw5⟩ : ∃ w5, w5 = w4.drewN nq := ⟨_, rfl⟩
          rw [← hw5] at HQ' ⊢
          clear hw5 HQ
          have HQ := HQ'
          clear HQ'
          skip
          go_upto_region 18 with fail
          clear c0
          (try clear c1)
          (try clear c2)
          (try clear c3)
          (try clear c4)
          (try clear d0)
          (try clear d1)
          (try clear d2)
          (try clear d4)
          (try clear d5)
          skip
          have hq := HQ.out.put 2 rfl #[.int .u8 ((Mo.m b : Nat) : Int), .int .u16 ((Mo.s b : Nat) : Int), .int .u8 ((Mo.c b : Nat) : Int), .int .u8 ((Mo.n b : Nat) : Int), .int .u8 ((Mo.d b : Nat) : Int)]
          have HB2 := Lib.hid (hq.of 2 rfl)
          have HB := Lib.hid hq.be
          have b2 := HQ.out.of 2 rfl
          have b0 := HQ.out.of 0 rfl
          clear hq
          (try clear g1)
          (try clear g2)
          (try clear g3)
          (try clear g4)
          go_wp2_with (first | ((with_reducible show wpList _ _ _ (_ :: _) _ _); refine wpList_load_row rfl 129 _ rfl _ rfl _ _ _ _ b0 Try.underlying129 rfl (by exact size_mr) ?_; (try go_simp)) | ((with_reducible show wpList _ _ _ (_ :: _) _ _); refine wpList_store_row rfl 129 _ _ rfl _ _ rfl rfl _ _ b2 (by exact size_mr) (by rfl) (by simp [Value.oneCell']) ?_))
          skip
          show bodyPost Try.prog Try.f68 _ _ _ _
          refine bodyPost_ret (results_ct rfl _ _ _ _ _ _ rfl HB2.out Try.underlying129 rfl (by exact size_mr)) rfl ?_
          exact ⟨by rw [← HR.out]; rfl, HB.out⟩
    · have hm1 := HM.out
      have c3 : w4.cell? ⟨w.heap.size, 3, none⟩ = some (.int .u8 ((b.n : Nat) : Int)) := cell_of_row _ _ 3 _ _ _ (HQ.out.of 0 rfl)
      have d1 : w4.cell? ⟨w.heap.size + 1, 1, none⟩ = some (.int .u8 ((c.seen : Nat) : Int)) := cell_of_row _ _ 1 _ _ _ (HQ.out.of 1 rfl)
      rcases Nat.lt_or_ge b.n c.seen with g1 | g1
      · have c1 : w4.cell? ⟨w.heap.size, 1, none⟩ = some (.int .u16 ((b.s : Nat) : Int)) := cell_of_row _ _ 1 _ _ _ (HQ.out.of 0 rfl)
        have d5 : w4.cell? ⟨w.heap.size + 1, 5, none⟩ = some (.int .u16 ((c.t 2 : Nat) : Int)) := cell_of_row _ _ 5 _ _ _ (HQ.out.of 1 rfl)
        have l1 : lateB b c = decide (0 < c.t 2 ∧ c.t 2 ≤ b.s) := by unfold lateB; rw [HM.out]; exact decide_eq_decide.2 (by simp [g1])
        have L1 := Lib.hid l1
        clear l1
        rcases (by omega : c.t 2 = 0 ∨ (0 < c.t 2 ∧ c.t 2 ≤ b.s) ∨ (0 < c.t 2 ∧ b.s < c.t 2)) with g3 | ⟨g3, g4⟩ | ⟨g3, g4⟩
        · skip
          have hR : R = (b, 0) := by
            have := HM.out
            rw [← HR.out, show calmB b c = false from decide_eq_false (by omega), show darkB b c = false from decide_eq_false (by omega), show lateB b c = false from L1.out.trans (decide_eq_false (by omega))]; rfl
          have HR := Lib.hid hR.symm
          clear hR
          clear hm1
          skip
          go_upto_region 16 with fail
          go_quiet (fail)
          have HQ' := Lib.hid (HQ.out.step (bel_drewV w4 nq))
          obtain ⟨w5, hw5⟩ : ∃ w5, w5 = w4.drewN nq := ⟨_, rfl⟩
          rw [← hw5] at HQ' ⊢
          clear hw5 HQ
          have HQ := HQ'
          clear HQ'
          skip
          go_upto_region 18 with fail
          clear c0
          (try clear c1)
          (try clear c2)
          (try clear c3)
          (try clear c4)
          (try clear d0)
          (try clear d1)
          (try clear d2)
          (try clear d4)
          (try clear d5)
          skip
          have hq := HQ.out.put 2 rfl #[.int .u8 ((Mo.m b : Nat) : Int), .int .u16 ((Mo.s b : Nat) : Int), .int .u8 ((Mo.c b : Nat) : Int), .int .u8 ((Mo.n b : Nat) : Int), .int .u8 ((Mo.d b : Nat) : Int)]
          have HB2 := Lib.hid (hq.of 2 rfl)
          have HB := Lib.hid hq.be
          have b2 := HQ.out.of 2 rfl
          have b0 := HQ.out.of 0 rfl
          clear hq
          (try clear g1)
          (try clear g2)
          (try clear g3)
          (try clear g4)
          go_wp2_with (first | ((with_reducible show wpList _ _ _ (_ :: _) _ _); refine wpList_load_row rfl 129 _ rfl _ rfl _ _ _ _ b0 Try.underlying129 rfl (by exact size_mr) ?_; (try go_simp)) | ((with_reducible show wpList _ _ _ (_ :: _) _ _); refine wpList_store_row rfl 129 _ _ rfl _ _ rfl rfl _ _ b2 (by exact size_mr) (by rfl) (by simp [Value.oneCell']) ?_))
          skip
          show bodyPost Try.prog Try.f68 _ _ _ _
          refine bodyPost_ret (results_ct rfl _ _ _ _ _ _ rfl HB2.out Try.underlying129 rfl (by exact size_mr)) rfl ?_
          exact ⟨by rw [← HR.out]; rfl, HB.out⟩
        · skip
          have hR : R = (moZ, 3) := by
            have := HM.out
            rw [← HR.out, show calmB b c = false from decide_eq_false (by omega), show darkB b c = false from decide_eq_false (by omega), show lateB b c = true from L1.out.trans (decide_eq_true ⟨g3, g4⟩)]; rfl
          have HR := Lib.hid hR.symm
          clear hR
          clear hm1
          skip
          go_upto_region 16 with fail
          go_quiet (fail)
          have HQ' := Lib.hid (HQ.out.step (bel_drewV w4 nq))
          obtain ⟨w5, hw5⟩ : ∃ w5, w5 = w4.drewN nq := ⟨_, rfl⟩
          rw [← hw5] at HQ' ⊢
          clear hw5 HQ
          have HQ := HQ'
          clear HQ'
          skip
          go_upto_region 17 with fail
          clear c0
          (try clear c1)
          (try clear c2)
          (try clear c3)
          (try clear c4)
          (try clear d0)
          (try clear d1)
          (try clear d2)
          (try clear d4)
          (try clear d5)
          skip
          have hq := HQ.out.put 2 rfl #[.int .u8 0, .int .u16 0, .int .u8 0, .int .u8 0, .int .u8 0]
          have HB2 := Lib.hid (hq.of 2 rfl)
          have HB := Lib.hid hq.be
          have b2 := HQ.out.of 2 rfl
          have b0 := HQ.out.of 0 rfl
          clear hq
          (try clear g1)
          (try clear g2)
          (try clear g3)
          (try clear g4)
          go_wp2_with ((with_reducible show wpList _ _ _ (_ :: _) _ _); refine wpList_store_row rfl 129 _ _ rfl _ _ rfl rfl _ _ b2 (by exact size_mr) (by rfl) (by simp [Value.oneCell']) ?_)
          skip
          show bodyPost Try.prog Try.f68 _ _ _ _
          refine bodyPost_ret (results_ct rfl _ _ _ _ _ _ rfl HB2.out Try.underlying129 rfl (by exact size_mr)) rfl ?_
          exact ⟨by rw [← HR.out]; rfl, HB.out⟩
        · skip
          have hR : R = (b, 0) := by
            have := HM.out
            rw [← HR.out, show calmB b c = false from decide_eq_false (by omega), show darkB b c = false from decide_eq_false (by omega), show lateB b c = false from L1.out.trans (decide_eq_false (by omega))]; rfl
          have HR := Lib.hid hR.symm
          clear hR
          clear hm1
          skip
          go_upto_region 16 with fail
          go_quiet (fail)
          have HQ' := Lib.hid (HQ.out.step (bel_drewV w4 nq))
          obtain ⟨w5, hw5⟩ : ∃ w5, w5 = w4.drewN nq := ⟨_, rfl⟩
          rw [← hw5] at HQ' ⊢
          clear hw5 HQ
          have HQ := HQ'
          clear HQ'
          skip
          go_upto_region 18 with fail
          clear c0
          (try clear c1)
          (try clear c2)
          (try clear c3)
          (try clear c4)
          (try clear d0)
          (try clear d1)
          (try clear d2)
          (try clear d4)
          (try clear d5)
          skip
          have hq := HQ.out.put 2 rfl #[.int .u8 ((Mo.m b : Nat) : Int), .int .u16 ((Mo.s b : Nat) : Int), .int .u8 ((Mo.c b : Nat) : Int), .int .u8 ((Mo.n b : Nat) : Int), .int .u8 ((Mo.d b : Nat) : Int)]
          have HB2 := Lib.hid (hq.of 2 rfl)
          have HB := Lib.hid hq.be
          have b2 := HQ.out.of 2 rfl
          have b0 := HQ.out.of 0 rfl
          clear hq
          (try clear g1)
          (try clear g2)
          (try clear g3)
          (try clear g4)
          go_wp2_with (first | ((with_reducible show wpList _ _ _ (_ :: _) _ _); refine wpList_load_row rfl 129 _ rfl _ rfl _ _ _ _ b0 Try.underlying129 rfl (by exact size_mr) ?_; (try go_simp)) | ((with_reducible show wpList _ _ _ (_ :: _) _ _); refine wpList_store_row rfl 129 _ _ rfl _ _ rfl rfl _ _ b2 (by exact size_mr) (by rfl) (by simp [Value.oneCell']) ?_))
          skip
          show bodyPost Try.prog Try.f68 _ _ _ _
          refine bodyPost_ret (results_ct rfl _ _ _ _ _ _ rfl HB2.out Try.underlying129 rfl (by exact size_mr)) rfl ?_
          exact ⟨by rw [← HR.out]; rfl, HB.out⟩
      · skip
        have hR : R = (b, 0) := by
          rw [← HR.out, show calmB b c = false from decide_eq_false (by omega), show darkB b c = false from decide_eq_false (by omega), show lateB b c = false from decide_eq_false (by omega)]; rfl
        have HR := Lib.hid hR.symm
        clear hR
        clear hm1
        skip
        go_upto_region 18 with fail
        clear c0
        (try clear c1)
        (try clear c2)
        (try clear c3)
        (try clear c4)
        (try clear d0)
        (try clear d1)
        (try clear d2)
        (try clear d4)
        (try clear d5)
        skip
        have hq := HQ.out.put 2 rfl #[.int .u8 ((Mo.m b : Nat) : Int), .int .u16 ((Mo.s b : Nat) : Int), .int .u8 ((Mo.c b : Nat) : Int), .int .u8 ((Mo.n b : Nat) : Int), .int .u8 ((Mo.d b : Nat) : Int)]
        have HB2 := Lib.hid (hq.of 2 rfl)
        have HB := Lib.hid hq.be
        have b2 := HQ.out.of 2 rfl
        have b0 := HQ.out.of 0 rfl
        clear hq
        (try clear g1)
        (try clear g2)
        (try clear g3)
        (try clear g4)
        go_wp2_with (first | ((with_reducible show wpList _ _ _ (_ :: _) _ _); refine wpList_load_row rfl 129 _ rfl _ rfl _ _ _ _ b0 Try.underlying129 rfl (by exact size_mr) ?_; (try go_simp)) | ((with_reducible show wpList _ _ _ (_ :: _) _ _); refine wpList_store_row rfl 129 _ _ rfl _ _ rfl rfl _ _ b2 (by exact size_mr) (by rfl) (by simp [Value.oneCell']) ?_))
        skip
        show bodyPost Try.prog Try.f68 _ _ _ _
        refine bodyPost_ret (results_ct rfl _ _ _ _ _ _ rfl HB2.out Try.underlying129 rfl (by exact size_mr)) rfl ?_
        exact ⟨by rw [← HR.out]; rfl, HB.out⟩
    · have hm1 := HM.out
      have c4 : w4.cell? ⟨w.heap.size, 4, none⟩ = some (.int .u8 ((b.d : Nat) : Int)) := cell_of_row _ _ 4 _ _ _ (HQ.out.of 0 rfl)
      have d2 : w4.cell? ⟨w.heap.size + 1, 2, none⟩ = some (.int .u8 ((c.lost : Nat) : Int)) := cell_of_row _ _ 2 _ _ _ (HQ.out.of 1 rfl)
      rcases (by omega : (0 < c.lost ∧ c.lost ≤ b.d) ∨ c.lost = 0 ∨ (0 < c.lost ∧ b.d < c.lost)) with ⟨g1, g2⟩ | g1 | ⟨g1, g2⟩
      · have hR : R = (moS, 4) := by
          rw [← HR.out, show calmB b c = false from decide_eq_false (by omega), show darkB b c = true from decide_eq_true ⟨HM.out, g1, g2⟩]; rfl
        have HR := Lib.hid hR.symm
        clear hR hm1
        skip
        go_upto_region 14 with fail
        clear c0
        (try clear c1)
        (try clear c2)
        (try clear c3)
        (try clear c4)
        (try clear d0)
        (try clear d1)
        (try clear d2)
        (try clear d4)
        (try clear d5)
        skip
        have hq := HQ.out.put 2 rfl #[.int .u8 2, .int .u16 0, .int .u8 0, .int .u8 0, .int .u8 0]
        have HB2 := Lib.hid (hq.of 2 rfl)
        have HB := Lib.hid hq.be
        have b2 := HQ.out.of 2 rfl
        have b0 := HQ.out.of 0 rfl
        clear hq
        (try clear g1)
        (try clear g2)
        (try clear g3)
        (try clear g4)
        go_wp2_with ((with_reducible show wpList _ _ _ (_ :: _) _ _); refine wpList_store_row rfl 129 _ _ rfl _ _ rfl rfl _ _ b2 (by exact size_mr) (by rfl) (by simp [Value.oneCell']) ?_)
        skip
        show bodyPost Try.prog Try.f68 _ _ _ _
        refine bodyPost_ret (results_ct rfl _ _ _ _ _ _ rfl HB2.out Try.underlying129 rfl (by exact size_mr)) rfl ?_
        exact ⟨by rw [← HR.out]; rfl, HB.out⟩
      all_goals
        skip
        have hR : R = (b, 0) := by
          rw [← HR.out, show calmB b c = false from decide_eq_false (by omega), show darkB b c = false from decide_eq_false (by omega), show lateB b c = false from decide_eq_false (by omega)]; rfl
        have HR := Lib.hid hR.symm
        clear hR
        clear hm1
        skip
        go_upto_region 18 with fail
        clear c0
        (try clear c1)
        (try clear c2)
        (try clear c3)
        (try clear c4)
        (try clear d0)
        (try clear d1)
        (try clear d2)
        (try clear d4)
        (try clear d5)
        skip
        have hq := HQ.out.put 2 rfl #[.int .u8 ((Mo.m b : Nat) : Int), .int .u16 ((Mo.s b : Nat) : Int), .int .u8 ((Mo.c b : Nat) : Int), .int .u8 ((Mo.n b : Nat) : Int), .int .u8 ((Mo.d b : Nat) : Int)]
        have HB2 := Lib.hid (hq.of 2 rfl)
        have HB := Lib.hid hq.be
        have b2 := HQ.out.of 2 rfl
        have b0 := HQ.out.of 0 rfl
        clear hq
        (try clear g1)
        (try clear g2)
        (try clear g3)
        (try clear g4)
        go_wp2_with (first | ((with_reducible show wpList _ _ _ (_ :: _) _ _); refine wpList_load_row rfl 129 _ rfl _ rfl _ _ _ _ b0 Try.underlying129 rfl (by exact size_mr) ?_; (try go_simp)) | ((with_reducible show wpList _ _ _ (_ :: _) _ _); refine wpList_store_row rfl 129 _ _ rfl _ _ rfl rfl _ _ b2 (by exact size_mr) (by rfl) (by simp [Value.oneCell']) ?_))
        skip
        show bodyPost Try.prog Try.f68 _ _ _ _
        refine bodyPost_ret (results_ct rfl _ _ _ _ _ _ rfl HB2.out Try.underlying129 rfl (by exact size_mr)) rfl ?_
        exact ⟨by rw [← HR.out]; rfl, HB.out⟩
  · rcases Nat.eq_zero_or_pos a.m with h | h
    · rw [stepM_on c true false (fun _ => h)] at HR
      have HH := Lib.hid h
      skip
      go_upto_region 3 with fail
      clear c0
      have c1 := cell_of_row _ _ 1 _ _ _ (HQ1.out.of 0 rfl)
      have f1 := frozen_of_row _ _ 1 _ _ (HQ1.out.of 0 rfl)
      obtain ⟨hm, hs, hcc, hn, hd⟩ := ha
      have hux := upM_le (show a.s ≤ 65535 by omega)
      obtain ⟨x1, hx1⟩ : ∃ x, upM a.s 65535 = x := ⟨_, rfl⟩
      have HU := Lib.hid (rUp_s a.s · (by omega))
      rw [hx1] at HU hux
      have HV := Lib.hid (HQ1.out.set 0 rfl 1 (.int .u16 (x1 : Nat)))
      have hx2 : x1 < 65536 := by omega
      clear hux
      have HX1 := Lib.hid hx1
      clear hx1
      go_upto_region 4 with (go_at_call 123; with_reducible refine (HU.out _).mono ?_; rintro e w' ⟨rfl, rfl⟩)
      obtain ⟨w2, hw2⟩ : ∃ w2, w2 = w1.setCell ⟨w.heap.size, 1, none⟩ (.int .u16 (x1 : Nat)) := ⟨_, rfl⟩
      have HQ2 := Lib.hid (show Bq w w2 [(w.heap.size, #[.int .u8 ((a.m : Nat) : Int), .int .u16 ((x1 : Nat) : Int), .int .u8 ((a.c : Nat) : Int), .int .u8 ((a.n : Nat) : Int), .int .u8 ((a.d : Nat) : Int)], 129), (w.heap.size + 1, #[.int .u8 ((Cf.calm c : Nat) : Int), .int .u8 ((Cf.seen c : Nat) : Int), .int .u8 ((Cf.lost c : Nat) : Int), .int .u16 ((Cf.t c 0 : Nat) : Int), .int .u16 ((Cf.t c 1 : Nat) : Int), .int .u16 ((Cf.t c 2 : Nat) : Int), .int .u16 ((Cf.t c 3 : Nat) : Int)], 132), (w.heap.size + 1 + 1, #[.int .u8 0, .int .u16 0, .int .u8 0, .int .u8 0, .int .u8 0], 129)] by rw [hw2]; exact HV.out)
      rw [← hw2]
      clear hw2 HV HU c1 f1 HQ1
      have HUc := Lib.hid (rUp_b a.c · hcc)
      have HUn := Lib.hid (rUp_b a.n · hn)
      have HUd := Lib.hid (rUp_b a.d · hd)
      have h2 := upM_le (show a.c ≤ 255 by omega)
      have h3 := upM_le (show a.n ≤ 255 by omega)
      have h4 := upM_le (show a.d ≤ 255 by omega)
      obtain ⟨x2, hx2e⟩ : ∃ x, upM a.c 255 = x := ⟨_, rfl⟩
      obtain ⟨x3, hx3e⟩ : ∃ x, upM a.n 255 = x := ⟨_, rfl⟩
      obtain ⟨x4, hx4e⟩ : ∃ x, upM a.d 255 = x := ⟨_, rfl⟩
      rw [hx2e] at HUc h2
      rw [hx3e] at HUn h3
      rw [hx4e] at HUd h4
      have b0 := HQ2.out.of 0 rfl
      have c2 := cell_of_row _ _ 2 _ _ _ b0
      have c3 := cell_of_row _ _ 3 _ _ _ b0
      have c4 := cell_of_row _ _ 4 _ _ _ b0
      have HCN := Lib.hid (show cnt a true false = ⟨a.m, x1, x2, 0, x4⟩ by unfold cnt; simp only [hx2e, hx3e, hx4e, HX1.out]; rfl)
      clear b0 hx2e hx3e hx4e HX1
      have EC := Lib.hid (show IntKind.i64.wrap (a.c : Int) = a.c by rw [IntKind.wrap_i64]; omega)
      have EN := Lib.hid (show IntKind.i64.wrap (a.n : Int) = a.n by rw [IntKind.wrap_i64]; omega)
      have ED := Lib.hid (show IntKind.i64.wrap (a.d : Int) = a.d by rw [IntKind.wrap_i64]; omega)
      go_quiet ((first | (go_at_call 123; with_reducible show Calls _ _ #[.int .i64 ((Mo.c a : Nat) : Int), _] _ _; exact quiet_eqM (HUc.out _)) | (go_at_call 123; with_reducible show Calls _ _ #[.int .i64 ((Mo.n a : Nat) : Int), _] _ _; exact quiet_eqM (HUn.out _)) | (go_at_call 123; with_reducible show Calls _ _ #[.int .i64 ((Mo.d a : Nat) : Int), _] _ _; exact quiet_eqM (HUd.out _))))
      have HQ3 := Lib.hid (HQ2.out.step (bel_drewV w2 nq))
      obtain ⟨w3, hw3⟩ : ∃ w3, w3 = w2.drewN nq := ⟨_, rfl⟩
      rw [← hw3] at HQ3 ⊢
      clear hw3 c2 c3 c4 EC EN ED HUc HUn HUd HQ2
      rw [HCN.out] at HR
      have k2 : x2 < 256 := by omega
      have k3 : 0 < 256 := by omega
      have k4 : x4 < 256 := by omega
      clear h2 h3 h4 HCN
      have r0 := HQ3.out.of 0 rfl
      have c2 := cell_of_row _ _ 2 _ _ _ r0
      have f2 := frozen_of_row _ _ 2 _ _ r0
      have c3 := cell_of_row _ _ 3 _ _ _ r0
      have f3 := frozen_of_row _ _ 3 _ _ r0
      have c4 := cell_of_row _ _ 4 _ _ _ r0
      have f4 := frozen_of_row _ _ 4 _ _ r0
      have HV := Lib.hid (((HQ3.out.set 0 rfl 2 (.int .u8 (x2 : Nat))).set 0 rfl 3 (.int .u8 0)).set 0 rfl 4 (.int .u8 (x4 : Nat)))
      clear r0
      go_upto_region 11 with fail
      clear c2 f2 c3 f3 c4 f4
      obtain ⟨w4, hw4⟩ : ∃ w4, w4 = ((w3.setCell ⟨w.heap.size, 2, none⟩ (.int .u8 (x2 : Nat))).setCell ⟨w.heap.size, 3, none⟩ (.int .u8 0)).setCell ⟨w.heap.size, 4, none⟩ (.int .u8 (x4 : Nat)) := ⟨_, rfl⟩
      obtain ⟨b, hbe⟩ : ∃ b : Mo, b = ⟨a.m, x1, x2, 0, x4⟩ := ⟨_, rfl⟩
      have HQ := Lib.hid (show Bq w w4 [(w.heap.size, #[.int .u8 ((Mo.m b : Nat) : Int), .int .u16 ((Mo.s b : Nat) : Int), .int .u8 ((Mo.c b : Nat) : Int), .int .u8 ((Mo.n b : Nat) : Int), .int .u8 ((Mo.d b : Nat) : Int)], 129), (w.heap.size + 1, #[.int .u8 ((Cf.calm c : Nat) : Int), .int .u8 ((Cf.seen c : Nat) : Int), .int .u8 ((Cf.lost c : Nat) : Int), .int .u16 ((Cf.t c 0 : Nat) : Int), .int .u16 ((Cf.t c 1 : Nat) : Int), .int .u16 ((Cf.t c 2 : Nat) : Int), .int .u16 ((Cf.t c 3 : Nat) : Int)], 132), (w.heap.size + 1 + 1, #[.int .u8 0, .int .u16 0, .int .u8 0, .int .u8 0, .int .u8 0], 129)] by rw [hw4, hbe]; exact HV.out)
      rw [← hbe] at HR
      rw [← hw4]
      have hm4 : b.m < 4 := by rw [hbe]; exact hm
      have hbam : b.m = a.m := by rw [hbe]
      have HBA := Lib.hid hbam
      clear hw4 HV HQ3 hbe hm hbam
      obtain ⟨bm, hbm⟩ : ∃ n, b.m = n := ⟨_, rfl⟩
      have c0 : w4.cell? ⟨w.heap.size, 0, none⟩ = some (.int .u8 (bm : Nat)) := by rw [← hbm]; exact cell_of_row _ _ 0 _ _ _ (HQ.out.of 0 rfl)
      have HM := Lib.hid hbm
      rw [hbm] at hm4
      clear hbm
      obtain rfl : bm = 0 := by have := HM.out; have := HBA.out; have := HH.out; omega
      skip
      have hR : R = (b, 0) := by
        rw [← HR.out, show calmB b c = false from decide_eq_false (by have := HM.out; omega), show darkB b c = false from decide_eq_false (by have := HM.out; omega), show lateB b c = false from decide_eq_false (by have := HM.out; omega)]; rfl
      have HR := Lib.hid hR.symm
      clear hR
      skip
      go_upto_region 18 with fail
      clear c0
      (try clear c1)
      (try clear c2)
      (try clear c3)
      (try clear c4)
      (try clear d0)
      (try clear d1)
      (try clear d2)
      (try clear d4)
      (try clear d5)
      skip
      have hq := HQ.out.put 2 rfl #[.int .u8 ((Mo.m b : Nat) : Int), .int .u16 ((Mo.s b : Nat) : Int), .int .u8 ((Mo.c b : Nat) : Int), .int .u8 ((Mo.n b : Nat) : Int), .int .u8 ((Mo.d b : Nat) : Int)]
      have HB2 := Lib.hid (hq.of 2 rfl)
      have HB := Lib.hid hq.be
      have b2 := HQ.out.of 2 rfl
      have b0 := HQ.out.of 0 rfl
      clear hq
      (try clear g1)
      (try clear g2)
      (try clear g3)
      (try clear g4)
      go_wp2_with (first | ((with_reducible show wpList _ _ _ (_ :: _) _ _); refine wpList_load_row rfl 129 _ rfl _ rfl _ _ _ _ b0 Try.underlying129 rfl (by exact size_mr) ?_; (try go_simp)) | ((with_reducible show wpList _ _ _ (_ :: _) _ _); refine wpList_store_row rfl 129 _ _ rfl _ _ rfl rfl _ _ b2 (by exact size_mr) (by rfl) (by simp [Value.oneCell']) ?_))
      skip
      show bodyPost Try.prog Try.f68 _ _ _ _
      refine bodyPost_ret (results_ct rfl _ _ _ _ _ _ rfl HB2.out Try.underlying129 rfl (by exact size_mr)) rfl ?_
      exact ⟨by rw [← HR.out]; rfl, HB.out⟩
    · rw [stepM_fell c true false h] at HR
      go_upto_region 2 with fail
      have HQ := HQ1
      clear HQ1 c0 h
      skip
      have hq := HQ.out.put 2 rfl #[.int .u8 0, .int .u16 0, .int .u8 0, .int .u8 0, .int .u8 0]
      have HB2 := Lib.hid (hq.of 2 rfl)
      have HB := Lib.hid hq.be
      have b2 := HQ.out.of 2 rfl
      have b0 := HQ.out.of 0 rfl
      clear hq
      go_wp2_with ((with_reducible show wpList _ _ _ (_ :: _) _ _); refine wpList_store_row rfl 129 _ _ rfl _ _ rfl rfl _ _ b2 (by exact size_mr) (by rfl) (by simp [Value.oneCell']) ?_)
      skip
      show bodyPost Try.prog Try.f68 _ _ _ _
      refine bodyPost_ret (results_ct rfl _ _ _ _ _ _ rfl HB2.out Try.underlying129 rfl (by exact size_mr)) rfl ?_
      exact ⟨by rw [← HR.out]; rfl, HB.out⟩
end Go.Proofs.Ytnjkpamjjdkmoaa
