/- Layer 24: the document's Ask. -/
import Derived.Test.YtnjkpamjjdkmoaaMd2
namespace Go.Proofs.Ytnjkpamjjdkmoaa
open Go.RowKit Go.Own
set_option linter.unusedVariables false
set_option linter.unusedSimpArgs false
theorem quiet_eqA {P : Program} {f : FuncId} {args : Array Value} {w : World} {n : Nat} {v : Value}
    (h : Calls P f args (w.drewN n) fun e w' => e = .returned v ∧ w.drewN n = w') : Calls P f args (w.drewN n) fun e w'' => e = .returned v ∧ ∃ m, w'' = w.drewN m :=
  h.mono fun _ _ ⟨he, hm⟩ => ⟨he, n, hm.symm⟩
theorem size_mrA : (Try.prog.info? 129).map (·.size) = some 5 := by kernel_rfl
theorem zero_mrA (w : World) : (zeroValue 129).run Try.prog w = .ok (.agg #[.int .u8 0, .int .u16 0, .int .u8 0, .int .u8 0, .int .u8 0]) w := by kernel_rfl
set_option maxRecDepth 100000 in
set_option maxHeartbeats 8000000 in
theorem rAsk_any (a : Mo) (c : Cf) (m : Nat) (w : World) (ha : a.Ok) (hc : c.Ok) (hm : m < 256) : Calls Try.prog 70 #[.agg #[.int .u8 ((Mo.m a : Nat) : Int), .int .u16 ((Mo.s a : Nat) : Int), .int .u8 ((Mo.c a : Nat) : Int), .int .u8 ((Mo.n a : Nat) : Int), .int .u8 ((Mo.d a : Nat) : Int)], .agg #[.int .u8 ((Cf.calm c : Nat) : Int), .int .u8 ((Cf.seen c : Nat) : Int), .int .u8 ((Cf.lost c : Nat) : Int), .int .u16 ((Cf.t c 0 : Nat) : Int), .int .u16 ((Cf.t c 1 : Nat) : Int), .int .u16 ((Cf.t c 2 : Nat) : Int), .int .u16 ((Cf.t c 3 : Nat) : Int)], .int .u8 (m : Nat)] w fun e w' => e = .returned (.tuple #[.agg #[.int .u8 ((Mo.m (askM 1 7 a c m).1 : Nat) : Int), .int .u16 ((Mo.s (askM 1 7 a c m).1 : Nat) : Int), .int .u8 ((Mo.c (askM 1 7 a c m).1 : Nat) : Int), .int .u8 ((Mo.n (askM 1 7 a c m).1 : Nat) : Int), .int .u8 ((Mo.d (askM 1 7 a c m).1 : Nat) : Int)], .int .i64 (((askM 1 7 a c m).2 : Nat) : Int)]) ∧ Below w.heap.size w w' := by
  have hz := zero_mrA
  obtain ⟨R, hR⟩ : ∃ R, askM 1 7 a c m = R := ⟨_, rfl⟩
  rw [hR]
  have HR := Lib.hid hR
  clear hR
  have hq := (((Bq.nil w).new #[.int .u8 ((Mo.m a : Nat) : Int), .int .u16 ((Mo.s a : Nat) : Int), .int .u8 ((Mo.c a : Nat) : Int), .int .u8 ((Mo.n a : Nat) : Int), .int .u8 ((Mo.d a : Nat) : Int)] 129).new #[.int .u8 ((Cf.calm c : Nat) : Int), .int .u8 ((Cf.seen c : Nat) : Int), .int .u8 ((Cf.lost c : Nat) : Int), .int .u16 ((Cf.t c 0 : Nat) : Int), .int .u16 ((Cf.t c 1 : Nat) : Int), .int .u16 ((Cf.t c 2 : Nat) : Int), .int .u16 ((Cf.t c 3 : Nat) : Int)] 132).new #[.int .u8 0, .int .u16 0, .int .u8 0, .int .u8 0, .int .u8 0] 129
  go_enter Try.func70, Try.ntmps70
  go_upto_region 1 with fail
  simp only [World.size_alloc] at hq
  obtain ⟨w1, hw1⟩ : ∃ w1, w1 = ((w.alloc (.cells #[.int .u8 ((Mo.m a : Nat) : Int), .int .u16 ((Mo.s a : Nat) : Int), .int .u8 ((Mo.c a : Nat) : Int), .int .u8 ((Mo.n a : Nat) : Int), .int .u8 ((Mo.d a : Nat) : Int)] 129)).alloc (.cells #[.int .u8 ((Cf.calm c : Nat) : Int), .int .u8 ((Cf.seen c : Nat) : Int), .int .u8 ((Cf.lost c : Nat) : Int), .int .u16 ((Cf.t c 0 : Nat) : Int), .int .u16 ((Cf.t c 1 : Nat) : Int), .int .u16 ((Cf.t c 2 : Nat) : Int), .int .u16 ((Cf.t c 3 : Nat) : Int)] 132)).alloc (.cells #[.int .u8 0, .int .u16 0, .int .u8 0, .int .u8 0, .int .u8 0] 129) := ⟨_, rfl⟩
  rw [← hw1] at hq ⊢
  have HQ := Lib.hid (show Bq w w1 [(w.heap.size, #[.int .u8 ((Mo.m a : Nat) : Int), .int .u16 ((Mo.s a : Nat) : Int), .int .u8 ((Mo.c a : Nat) : Int), .int .u8 ((Mo.n a : Nat) : Int), .int .u8 ((Mo.d a : Nat) : Int)], 129), (w.heap.size + 1, #[.int .u8 ((Cf.calm c : Nat) : Int), .int .u8 ((Cf.seen c : Nat) : Int), .int .u8 ((Cf.lost c : Nat) : Int), .int .u16 ((Cf.t c 0 : Nat) : Int), .int .u16 ((Cf.t c 1 : Nat) : Int), .int .u16 ((Cf.t c 2 : Nat) : Int), .int .u16 ((Cf.t c 3 : Nat) : Int)], 132), (w.heap.size + 1 + 1, #[.int .u8 0, .int .u16 0, .int .u8 0, .int .u8 0, .int .u8 0], 129)] from hq)
  clear hq hw1
  by_cases h4 : m < 4
  · rcases Nat.eq_zero_or_pos m with rfl | h0
    · rw [ask_zero] at HR
      skip
      have hq := HQ.out.put 2 rfl #[.int .u8 0, .int .u16 0, .int .u8 0, .int .u8 0, .int .u8 0]
      have HB2 := Lib.hid (hq.of 2 rfl)
      have HB := Lib.hid hq.be
      have b2 := HQ.out.of 2 rfl
      have b0 := HQ.out.of 0 rfl
      clear hq
      go_wp2_with ((with_reducible show wpList _ _ _ (_ :: _) _ _); refine wpList_store_row rfl 129 _ _ rfl _ _ rfl rfl _ _ b2 (by exact size_mrA) (by rfl) (by simp [Value.oneCell']) ?_)
      skip
      refine bodyPost_ret (results_ct rfl _ _ _ _ _ _ rfl HB2.out Try.underlying129 rfl (by exact size_mrA)) rfl ?_
      exact ⟨by rw [← HR.out]; rfl, HB.out⟩
    · by_cases he : m = a.m
      · rw [ask_same c (by omega) h4 he] at HR
        have hbe : ((m : Int) == (a.m : Int)) = true := by rw [beq_iff_eq]; omega
        have c0 := cell_of_row _ _ 0 _ _ _ (HQ.out.of 0 rfl)
        clear he
        go_upto_region 6 with fail
        clear c0 hbe h0 h4
        skip
        skip
        have hq := HQ.out.put 2 rfl #[.int .u8 ((Mo.m a : Nat) : Int), .int .u16 ((Mo.s a : Nat) : Int), .int .u8 ((Mo.c a : Nat) : Int), .int .u8 ((Mo.n a : Nat) : Int), .int .u8 ((Mo.d a : Nat) : Int)]
        have HB2 := Lib.hid (hq.of 2 rfl)
        have HB := Lib.hid hq.be
        have b2 := HQ.out.of 2 rfl
        have b0 := HQ.out.of 0 rfl
        clear hq
        go_wp2_with (first | ((with_reducible show wpList _ _ _ (_ :: _) _ _); refine wpList_load_row rfl 129 _ rfl _ rfl _ _ _ _ b0 Try.underlying129 rfl (by exact size_mrA) ?_; (try go_simp)) | ((with_reducible show wpList _ _ _ (_ :: _) _ _); refine wpList_store_row rfl 129 _ _ rfl _ _ rfl rfl _ _ b2 (by exact size_mrA) (by rfl) (by simp [Value.oneCell']) ?_))
        skip
        refine bodyPost_ret (results_ct rfl _ _ _ _ _ _ rfl HB2.out Try.underlying129 rfl (by exact size_mrA)) rfl ?_
        exact ⟨by rw [← HR.out]; rfl, HB.out⟩
      · rw [ask_else c (by omega) h4 he] at HR
        have hma := ha.1
        obtain ⟨am, hamm⟩ : ∃ n, a.m = n := ⟨_, rfl⟩
        have c0 : w1.cell? ⟨w.heap.size, 0, none⟩ = some (.int .u8 (am : Nat)) := by rw [← hamm]; exact cell_of_row _ _ 0 _ _ _ (HQ.out.of 0 rfl)
        have HM := Lib.hid hamm
        rw [hamm] at hma he
        clear hamm
        have hbe : ((m : Int) == (am : Int)) = false := by rw [beq_eq_false_iff_ne]; omega
        have hb0 : ((m : Int) == 0) = false := by rw [beq_eq_false_iff_ne]; omega
        go_upto_region 8 with fail
        clear c0 hbe hb0
        have hs := (HQ.out.new #[.string ⟨#[]⟩, .string ⟨#[48]⟩, .string ⟨#[49, 51]⟩, .string ⟨#[50]⟩] 9)
        obtain ⟨w2, hw2⟩ : ∃ w2, w2 = w1.alloc (.cells #[.string ⟨#[]⟩, .string ⟨#[48]⟩, .string ⟨#[49, 51]⟩, .string ⟨#[50]⟩] 9) := ⟨_, rfl⟩
        rw [← hw2] at hs ⊢
        obtain ⟨gs, hgs⟩ : ∃ g, g = w1.heap.size := ⟨_, rfl⟩
        rw [← hgs] at hs ⊢
        have HQ2 := Lib.hid (show Bq w w2 [(w.heap.size, #[.int .u8 ((Mo.m a : Nat) : Int), .int .u16 ((Mo.s a : Nat) : Int), .int .u8 ((Mo.c a : Nat) : Int), .int .u8 ((Mo.n a : Nat) : Int), .int .u8 ((Mo.d a : Nat) : Int)], 129), (w.heap.size + 1, #[.int .u8 ((Cf.calm c : Nat) : Int), .int .u8 ((Cf.seen c : Nat) : Int), .int .u8 ((Cf.lost c : Nat) : Int), .int .u16 ((Cf.t c 0 : Nat) : Int), .int .u16 ((Cf.t c 1 : Nat) : Int), .int .u16 ((Cf.t c 2 : Nat) : Int), .int .u16 ((Cf.t c 3 : Nat) : Int)], 132), (w.heap.size + 1 + 1, #[.int .u8 0, .int .u16 0, .int .u8 0, .int .u8 0, .int .u8 0], 129), (gs, #[.string ⟨#[]⟩, .string ⟨#[48]⟩, .string ⟨#[49, 51]⟩, .string ⟨#[50]⟩], 9)] from hs)
        clear hs hw2 hgs HQ
        have HQ := HQ2
        clear HQ2
        have c0 : w2.cell? ⟨w.heap.size, 0, none⟩ = some (.int .u8 (am : Nat)) := by rw [← HM.out]; exact cell_of_row _ _ 0 _ _ _ (HQ.out.of 0 rfl)
        have s1 : w2.cell? ⟨gs, 1, none⟩ = some (.string ⟨#[48]⟩) := cell_of_row _ _ 1 _ _ _ (HQ.out.of 3 rfl)
        have s2 : w2.cell? ⟨gs, 2, none⟩ = some (.string ⟨#[49, 51]⟩) := cell_of_row _ _ 2 _ _ _ (HQ.out.of 3 rfl)
        have s3 : w2.cell? ⟨gs, 3, none⟩ = some (.string ⟨#[50]⟩) := cell_of_row _ _ 3 _ _ _ (HQ.out.of 3 rfl)
        have e0 : (ByteArray.mk #[48, 49, 50, 51]).extract 0 1 = ⟨#[48]⟩ := rfl
        have e1 : (ByteArray.mk #[48, 49, 50, 51]).extract 1 2 = ⟨#[49]⟩ := rfl
        have e2 : (ByteArray.mk #[48, 49, 50, 51]).extract 2 3 = ⟨#[50]⟩ := rfl
        have e3 : (ByteArray.mk #[48, 49, 50, 51]).extract 3 4 = ⟨#[51]⟩ := rfl
        have e4 : (ByteArray.mk #[48]).extract 0 1 = ⟨#[48]⟩ := rfl
        have e5 : (ByteArray.mk #[49, 51]).extract 0 1 = ⟨#[49]⟩ := rfl
        have e6 : (ByteArray.mk #[49, 51]).extract 1 2 = ⟨#[51]⟩ := rfl
        have e7 : (ByteArray.mk #[50]).extract 0 1 = ⟨#[50]⟩ := rfl
        rcases (by omega : m = 1 ∨ m = 2 ∨ m = 3) with rfl | rfl | rfl
        · rcases (by omega : am = 0 ∨ am = 2 ∨ am = 3) with rfl | rfl | rfl
          · rw [show decide (mayM a c 1) = true from decide_eq_true (.inl ⟨rfl, HM.out⟩), if_pos rfl] at HR
            skip
            go_upto_region 10 with fail
            go_wp2
            refine wp_loop_rounds 2 ?_
            rw [rounds_succ]
            go_wp2
            rw [rounds_succ]
            go_upto_region 15 with fail
            skip
            go_upto_region 17 with fail
            clear c0 s1 s2 s3 e0 e1 e2 e3 e4 e5 e6 e7
            (try clear c3 d1)
            (try clear g1)
            skip
            have hq := HQ.out.put 2 rfl #[.int .u8 ((1 : Nat) : Int), .int .u16 0, .int .u8 0, .int .u8 0, .int .u8 0]
            have HB2 := Lib.hid (hq.of 2 rfl)
            have HB := Lib.hid hq.be
            have b2 := HQ.out.of 2 rfl
            have b0 := HQ.out.of 0 rfl
            clear hq
            go_wp2_with ((with_reducible show wpList _ _ _ (_ :: _) _ _); refine wpList_store_row rfl 129 _ _ rfl _ _ rfl rfl _ _ b2 (by exact size_mrA) (by rfl) (by simp [Value.oneCell']) ?_)
            skip
            refine bodyPost_ret (results_ct rfl _ _ _ _ _ _ rfl HB2.out Try.underlying129 rfl (by exact size_mrA)) rfl ?_
            exact ⟨by rw [← HR.out]; rfl, HB.out⟩
          · rw [show decide (mayM a c 1) = false from decide_eq_false (fun g => by have := HM.out; unfold mayM at g; omega), if_neg (by decide)] at HR
            skip
            go_upto_region 10 with fail
            go_wp2
            refine wp_loop_rounds 2 ?_
            rw [rounds_succ]
            go_wp2
            rw [rounds_succ]
            go_upto_region 15 with fail
            skip
            go_upto_region 16 with fail
            clear c0 s1 s2 s3 e0 e1 e2 e3 e4 e5 e6 e7
            (try clear c3 d1)
            (try clear g1)
            skip
            skip
            have hq := HQ.out.put 2 rfl #[.int .u8 ((Mo.m a : Nat) : Int), .int .u16 ((Mo.s a : Nat) : Int), .int .u8 ((Mo.c a : Nat) : Int), .int .u8 ((Mo.n a : Nat) : Int), .int .u8 ((Mo.d a : Nat) : Int)]
            have HB2 := Lib.hid (hq.of 2 rfl)
            have HB := Lib.hid hq.be
            have b2 := HQ.out.of 2 rfl
            have b0 := HQ.out.of 0 rfl
            clear hq
            go_wp2_with (first | ((with_reducible show wpList _ _ _ (_ :: _) _ _); refine wpList_load_row rfl 129 _ rfl _ rfl _ _ _ _ b0 Try.underlying129 rfl (by exact size_mrA) ?_; (try go_simp)) | ((with_reducible show wpList _ _ _ (_ :: _) _ _); refine wpList_store_row rfl 129 _ _ rfl _ _ rfl rfl _ _ b2 (by exact size_mrA) (by rfl) (by simp [Value.oneCell']) ?_))
            skip
            refine bodyPost_ret (results_ct rfl _ _ _ _ _ _ rfl HB2.out Try.underlying129 rfl (by exact size_mrA)) rfl ?_
            exact ⟨by rw [← HR.out]; rfl, HB.out⟩
          · rw [show decide (mayM a c 1) = false from decide_eq_false (fun g => by have := HM.out; unfold mayM at g; omega), if_neg (by decide)] at HR
            skip
            go_upto_region 10 with fail
            go_wp2
            refine wp_loop_rounds 2 ?_
            rw [rounds_succ]
            go_wp2
            rw [rounds_succ]
            go_upto_region 15 with fail
            skip
            go_upto_region 16 with fail
            clear c0 s1 s2 s3 e0 e1 e2 e3 e4 e5 e6 e7
            (try clear c3 d1)
            (try clear g1)
            skip
            skip
            have hq := HQ.out.put 2 rfl #[.int .u8 ((Mo.m a : Nat) : Int), .int .u16 ((Mo.s a : Nat) : Int), .int .u8 ((Mo.c a : Nat) : Int), .int .u8 ((Mo.n a : Nat) : Int), .int .u8 ((Mo.d a : Nat) : Int)]
            have HB2 := Lib.hid (hq.of 2 rfl)
            have HB := Lib.hid hq.be
            have b2 := HQ.out.of 2 rfl
            have b0 := HQ.out.of 0 rfl
            clear hq
            go_wp2_with (first | ((with_reducible show wpList _ _ _ (_ :: _) _ _); refine wpList_load_row rfl 129 _ rfl _ rfl _ _ _ _ b0 Try.underlying129 rfl (by exact size_mrA) ?_; (try go_simp)) | ((with_reducible show wpList _ _ _ (_ :: _) _ _); refine wpList_store_row rfl 129 _ _ rfl _ _ rfl rfl _ _ b2 (by exact size_mrA) (by rfl) (by simp [Value.oneCell']) ?_))
            skip
            refine bodyPost_ret (results_ct rfl _ _ _ _ _ _ rfl HB2.out Try.underlying129 rfl (by exact size_mrA)) rfl ?_
            exact ⟨by rw [← HR.out]; rfl, HB.out⟩
        · rcases (by omega : am = 0 ∨ am = 1 ∨ am = 3) with rfl | rfl | rfl
          · rw [show decide (mayM a c 2) = false from decide_eq_false (fun g => by have := HM.out; unfold mayM at g; omega), if_neg (by decide)] at HR
            skip
            go_upto_region 10 with fail
            go_wp2
            refine wp_loop_rounds 3 ?_
            rw [rounds_succ]
            go_wp2
            rw [rounds_succ]
            go_wp2
            rw [rounds_succ]
            go_upto_region 15 with fail
            skip
            go_upto_region 16 with fail
            clear c0 s1 s2 s3 e0 e1 e2 e3 e4 e5 e6 e7
            (try clear c3 d1)
            (try clear g1)
            skip
            skip
            have hq := HQ.out.put 2 rfl #[.int .u8 ((Mo.m a : Nat) : Int), .int .u16 ((Mo.s a : Nat) : Int), .int .u8 ((Mo.c a : Nat) : Int), .int .u8 ((Mo.n a : Nat) : Int), .int .u8 ((Mo.d a : Nat) : Int)]
            have HB2 := Lib.hid (hq.of 2 rfl)
            have HB := Lib.hid hq.be
            have b2 := HQ.out.of 2 rfl
            have b0 := HQ.out.of 0 rfl
            clear hq
            go_wp2_with (first | ((with_reducible show wpList _ _ _ (_ :: _) _ _); refine wpList_load_row rfl 129 _ rfl _ rfl _ _ _ _ b0 Try.underlying129 rfl (by exact size_mrA) ?_; (try go_simp)) | ((with_reducible show wpList _ _ _ (_ :: _) _ _); refine wpList_store_row rfl 129 _ _ rfl _ _ rfl rfl _ _ b2 (by exact size_mrA) (by rfl) (by simp [Value.oneCell']) ?_))
            skip
            refine bodyPost_ret (results_ct rfl _ _ _ _ _ _ rfl HB2.out Try.underlying129 rfl (by exact size_mrA)) rfl ?_
            exact ⟨by rw [← HR.out]; rfl, HB.out⟩
          · rw [show decide (mayM a c 2) = true from decide_eq_true (.inr (.inl ⟨rfl, .inl HM.out⟩)), if_pos rfl] at HR
            skip
            go_upto_region 10 with fail
            go_wp2
            refine wp_loop_rounds 3 ?_
            rw [rounds_succ]
            go_wp2
            rw [rounds_succ]
            go_wp2
            rw [rounds_succ]
            go_upto_region 15 with fail
            skip
            go_upto_region 17 with fail
            clear c0 s1 s2 s3 e0 e1 e2 e3 e4 e5 e6 e7
            (try clear c3 d1)
            (try clear g1)
            skip
            have hq := HQ.out.put 2 rfl #[.int .u8 ((2 : Nat) : Int), .int .u16 0, .int .u8 0, .int .u8 0, .int .u8 0]
            have HB2 := Lib.hid (hq.of 2 rfl)
            have HB := Lib.hid hq.be
            have b2 := HQ.out.of 2 rfl
            have b0 := HQ.out.of 0 rfl
            clear hq
            go_wp2_with ((with_reducible show wpList _ _ _ (_ :: _) _ _); refine wpList_store_row rfl 129 _ _ rfl _ _ rfl rfl _ _ b2 (by exact size_mrA) (by rfl) (by simp [Value.oneCell']) ?_)
            skip
            refine bodyPost_ret (results_ct rfl _ _ _ _ _ _ rfl HB2.out Try.underlying129 rfl (by exact size_mrA)) rfl ?_
            exact ⟨by rw [← HR.out]; rfl, HB.out⟩
          · rw [show decide (mayM a c 2) = true from decide_eq_true (.inr (.inl ⟨rfl, .inr HM.out⟩)), if_pos rfl] at HR
            skip
            go_upto_region 10 with fail
            go_wp2
            refine wp_loop_rounds 3 ?_
            rw [rounds_succ]
            go_wp2
            rw [rounds_succ]
            go_wp2
            rw [rounds_succ]
            go_upto_region 15 with fail
            skip
            go_upto_region 17 with fail
            clear c0 s1 s2 s3 e0 e1 e2 e3 e4 e5 e6 e7
            (try clear c3 d1)
            (try clear g1)
            skip
            have hq := HQ.out.put 2 rfl #[.int .u8 ((2 : Nat) : Int), .int .u16 0, .int .u8 0, .int .u8 0, .int .u8 0]
            have HB2 := Lib.hid (hq.of 2 rfl)
            have HB := Lib.hid hq.be
            have b2 := HQ.out.of 2 rfl
            have b0 := HQ.out.of 0 rfl
            clear hq
            go_wp2_with ((with_reducible show wpList _ _ _ (_ :: _) _ _); refine wpList_store_row rfl 129 _ _ rfl _ _ rfl rfl _ _ b2 (by exact size_mrA) (by rfl) (by simp [Value.oneCell']) ?_)
            skip
            refine bodyPost_ret (results_ct rfl _ _ _ _ _ _ rfl HB2.out Try.underlying129 rfl (by exact size_mrA)) rfl ?_
            exact ⟨by rw [← HR.out]; rfl, HB.out⟩
        · rcases (by omega : am = 0 ∨ am = 1 ∨ am = 2) with rfl | rfl | rfl
          · rw [show decide (mayM a c 3) = false from decide_eq_false (fun g => by have := HM.out; unfold mayM at g; omega), if_neg (by decide)] at HR
            skip
            go_upto_region 10 with fail
            go_wp2
            refine wp_loop_rounds 2 ?_
            rw [rounds_succ]
            go_wp2
            rw [rounds_succ]
            go_upto_region 15 with fail
            skip
            go_upto_region 16 with fail
            clear c0 s1 s2 s3 e0 e1 e2 e3 e4 e5 e6 e7
            (try clear c3 d1)
            (try clear g1)
            skip
            skip
            have hq := HQ.out.put 2 rfl #[.int .u8 ((Mo.m a : Nat) : Int), .int .u16 ((Mo.s a : Nat) : Int), .int .u8 ((Mo.c a : Nat) : Int), .int .u8 ((Mo.n a : Nat) : Int), .int .u8 ((Mo.d a : Nat) : Int)]
            have HB2 := Lib.hid (hq.of 2 rfl)
            have HB := Lib.hid hq.be
            have b2 := HQ.out.of 2 rfl
            have b0 := HQ.out.of 0 rfl
            clear hq
            go_wp2_with (first | ((with_reducible show wpList _ _ _ (_ :: _) _ _); refine wpList_load_row rfl 129 _ rfl _ rfl _ _ _ _ b0 Try.underlying129 rfl (by exact size_mrA) ?_; (try go_simp)) | ((with_reducible show wpList _ _ _ (_ :: _) _ _); refine wpList_store_row rfl 129 _ _ rfl _ _ rfl rfl _ _ b2 (by exact size_mrA) (by rfl) (by simp [Value.oneCell']) ?_))
            skip
            refine bodyPost_ret (results_ct rfl _ _ _ _ _ _ rfl HB2.out Try.underlying129 rfl (by exact size_mrA)) rfl ?_
            exact ⟨by rw [← HR.out]; rfl, HB.out⟩
          · rw [show decide (mayM a c 3) = false from decide_eq_false (fun g => by have := HM.out; unfold mayM at g; omega), if_neg (by decide)] at HR
            skip
            go_upto_region 10 with fail
            go_wp2
            refine wp_loop_rounds 2 ?_
            rw [rounds_succ]
            go_wp2
            rw [rounds_succ]
            go_upto_region 15 with fail
            skip
            go_upto_region 16 with fail
            clear c0 s1 s2 s3 e0 e1 e2 e3 e4 e5 e6 e7
            (try clear c3 d1)
            (try clear g1)
            skip
            skip
            have hq := HQ.out.put 2 rfl #[.int .u8 ((Mo.m a : Nat) : Int), .int .u16 ((Mo.s a : Nat) : Int), .int .u8 ((Mo.c a : Nat) : Int), .int .u8 ((Mo.n a : Nat) : Int), .int .u8 ((Mo.d a : Nat) : Int)]
            have HB2 := Lib.hid (hq.of 2 rfl)
            have HB := Lib.hid hq.be
            have b2 := HQ.out.of 2 rfl
            have b0 := HQ.out.of 0 rfl
            clear hq
            go_wp2_with (first | ((with_reducible show wpList _ _ _ (_ :: _) _ _); refine wpList_load_row rfl 129 _ rfl _ rfl _ _ _ _ b0 Try.underlying129 rfl (by exact size_mrA) ?_; (try go_simp)) | ((with_reducible show wpList _ _ _ (_ :: _) _ _); refine wpList_store_row rfl 129 _ _ rfl _ _ rfl rfl _ _ b2 (by exact size_mrA) (by rfl) (by simp [Value.oneCell']) ?_))
            skip
            refine bodyPost_ret (results_ct rfl _ _ _ _ _ _ rfl HB2.out Try.underlying129 rfl (by exact size_mrA)) rfl ?_
            exact ⟨by rw [← HR.out]; rfl, HB.out⟩
          · have c3 : w2.cell? ⟨w.heap.size, 3, none⟩ = some (.int .u8 ((a.n : Nat) : Int)) := cell_of_row _ _ 3 _ _ _ (HQ.out.of 0 rfl)
            have d1 : w2.cell? ⟨w.heap.size + 1, 1, none⟩ = some (.int .u8 ((c.seen : Nat) : Int)) := cell_of_row _ _ 1 _ _ _ (HQ.out.of 1 rfl)
            rcases Nat.lt_or_ge a.n c.seen with g1 | g1
            · rw [show decide (mayM a c 3) = false from decide_eq_false (fun g => by have := HM.out; unfold mayM at g; omega), if_neg (by decide)] at HR
              skip
              go_upto_region 10 with fail
              go_wp2
              refine wp_loop_rounds 2 ?_
              rw [rounds_succ]
              go_wp2
              rw [rounds_succ]
              go_upto_region 15 with fail
              skip
              go_upto_region 16 with fail
              clear c0 s1 s2 s3 e0 e1 e2 e3 e4 e5 e6 e7
              (try clear c3 d1)
              (try clear g1)
              skip
              skip
              have hq := HQ.out.put 2 rfl #[.int .u8 ((Mo.m a : Nat) : Int), .int .u16 ((Mo.s a : Nat) : Int), .int .u8 ((Mo.c a : Nat) : Int), .int .u8 ((Mo.n a : Nat) : Int), .int .u8 ((Mo.d a : Nat) : Int)]
              have HB2 := Lib.hid (hq.of 2 rfl)
              have HB := Lib.hid hq.be
              have b2 := HQ.out.of 2 rfl
              have b0 := HQ.out.of 0 rfl
              clear hq
              go_wp2_with (first | ((with_reducible show wpList _ _ _ (_ :: _) _ _); refine wpList_load_row rfl 129 _ rfl _ rfl _ _ _ _ b0 Try.underlying129 rfl (by exact size_mrA) ?_; (try go_simp)) | ((with_reducible show wpList _ _ _ (_ :: _) _ _); refine wpList_store_row rfl 129 _ _ rfl _ _ rfl rfl _ _ b2 (by exact size_mrA) (by rfl) (by simp [Value.oneCell']) ?_))
              skip
              refine bodyPost_ret (results_ct rfl _ _ _ _ _ _ rfl HB2.out Try.underlying129 rfl (by exact size_mrA)) rfl ?_
              exact ⟨by rw [← HR.out]; rfl, HB.out⟩
            · rw [show decide (mayM a c 3) = true from decide_eq_true (.inr (.inr ⟨rfl, HM.out, g1⟩)), if_pos rfl] at HR
              skip
              go_upto_region 10 with fail
              go_wp2
              refine wp_loop_rounds 2 ?_
              rw [rounds_succ]
              go_wp2
              rw [rounds_succ]
              go_upto_region 15 with fail
              skip
              go_upto_region 17 with fail
              clear c0 s1 s2 s3 e0 e1 e2 e3 e4 e5 e6 e7
              (try clear c3 d1)
              (try clear g1)
              skip
              have hq := HQ.out.put 2 rfl #[.int .u8 ((3 : Nat) : Int), .int .u16 0, .int .u8 0, .int .u8 0, .int .u8 0]
              have HB2 := Lib.hid (hq.of 2 rfl)
              have HB := Lib.hid hq.be
              have b2 := HQ.out.of 2 rfl
              have b0 := HQ.out.of 0 rfl
              clear hq
              go_wp2_with ((with_reducible show wpList _ _ _ (_ :: _) _ _); refine wpList_store_row rfl 129 _ _ rfl _ _ rfl rfl _ _ b2 (by exact size_mrA) (by rfl) (by simp [Value.oneCell']) ?_)
              skip
              refine bodyPost_ret (results_ct rfl _ _ _ _ _ _ rfl HB2.out Try.underlying129 rfl (by exact size_mrA)) rfl ?_
              exact ⟨by rw [← HR.out]; rfl, HB.out⟩
  · rw [ask_bad c (by omega)] at HR
    skip
    skip
    have hq := HQ.out.put 2 rfl #[.int .u8 ((Mo.m a : Nat) : Int), .int .u16 ((Mo.s a : Nat) : Int), .int .u8 ((Mo.c a : Nat) : Int), .int .u8 ((Mo.n a : Nat) : Int), .int .u8 ((Mo.d a : Nat) : Int)]
    have HB2 := Lib.hid (hq.of 2 rfl)
    have HB := Lib.hid hq.be
    have b2 := HQ.out.of 2 rfl
    have b0 := HQ.out.of 0 rfl
    clear hq
    go_wp2_with (first | ((with_reducible show wpList _ _ _ (_ :: _) _ _); refine wpList_load_row rfl 129 _ rfl _ rfl _ _ _ _ b0 Try.underlying129 rfl (by exact size_mrA) ?_; (try go_simp)) | ((with_reducible show wpList _ _ _ (_ :: _) _ _); refine wpList_store_row rfl 129 _ _ rfl _ _ rfl rfl _ _ b2 (by exact size_mrA) (by rfl) (by simp [Value.oneCell']) ?_))
    skip
    refine bodyPost_ret (results_ct rfl _ _ _ _ _ _ rfl HB2.out Try.underlying129 rfl (by exact size_mrA)) rfl ?_
    exact ⟨by rw [← HR.out]; rfl, HB.out⟩
end Go.Proofs.Ytnjkpamjjdkmoaa
