/- Layer 24: a cycle counted; Step; Ask. -/
import Derived.Test.YtnjkpamjjdkmoaaMd
namespace Go.Proofs.Ytnjkpamjjdkmoaa
open Go.RowKit Go.Own
set_option linter.unusedVariables false
set_option linter.unusedSimpArgs false
set_option maxRecDepth 100000 in
set_option maxHeartbeats 4000000 in
theorem counted_any (a : Mo) (calm seen : Bool) (w : World) (ha : a.Ok) : Calls Try.prog 118 #[.agg #[.int .u8 ((Mo.m a : Nat) : Int), .int .u16 ((Mo.s a : Nat) : Int), .int .u8 ((Mo.c a : Nat) : Int), .int .u8 ((Mo.n a : Nat) : Int), .int .u8 ((Mo.d a : Nat) : Int)], .bool calm, .bool seen] w fun e w' => e = .returned (.agg #[.int .u8 ((Mo.m (cnt a calm seen) : Nat) : Int), .int .u16 ((Mo.s (cnt a calm seen) : Nat) : Int), .int .u8 ((Mo.c (cnt a calm seen) : Nat) : Int), .int .u8 ((Mo.n (cnt a calm seen) : Nat) : Int), .int .u8 ((Mo.d (cnt a calm seen) : Nat) : Int)]) ∧ Below w.heap.size w w' := by
  have hz := zero_mo
  obtain ⟨hm, hs, hc, hn, hd⟩ := ha
  have HE := Lib.hid (show Ending.returned (.agg #[.int .u8 ((a.m : Nat) : Int), .int .u16 ((upM a.s 65535 : Nat) : Int), .int .u8 ((strk a.c calm : Nat) : Int), .int .u8 ((strk a.n seen : Nat) : Int), .int .u8 ((strk a.d (!seen) : Nat) : Int)]) = Ending.returned (.agg #[.int .u8 ((Mo.m (cnt a calm seen) : Nat) : Int), .int .u16 ((Mo.s (cnt a calm seen) : Nat) : Int), .int .u8 ((Mo.c (cnt a calm seen) : Nat) : Int), .int .u8 ((Mo.n (cnt a calm seen) : Nat) : Int), .int .u8 ((Mo.d (cnt a calm seen) : Nat) : Int)]) by
    unfold cnt strk
    cases seen <;> rfl)
  have hq := ((Bq.nil w).new #[.int .u8 ((Mo.m a : Nat) : Int), .int .u16 ((Mo.s a : Nat) : Int), .int .u8 ((Mo.c a : Nat) : Int), .int .u8 ((Mo.n a : Nat) : Int), .int .u8 ((Mo.d a : Nat) : Int)] 123).new #[.int .u8 0, .int .u16 0, .int .u8 0, .int .u8 0, .int .u8 0] 123
  go_enter Try.func118, Try.ntmps118
  go_upto_region 1 with fail
  rw [show (w.alloc (.cells #[.int .u8 ((Mo.m a : Nat) : Int), .int .u16 ((Mo.s a : Nat) : Int), .int .u8 ((Mo.c a : Nat) : Int), .int .u8 ((Mo.n a : Nat) : Int), .int .u8 ((Mo.d a : Nat) : Int)] 123)).heap.size = w.heap.size + 1 by simp] at hq
  obtain ⟨w1, hw1⟩ : ∃ w1, w1 = (w.alloc (.cells #[.int .u8 ((Mo.m a : Nat) : Int), .int .u16 ((Mo.s a : Nat) : Int), .int .u8 ((Mo.c a : Nat) : Int), .int .u8 ((Mo.n a : Nat) : Int), .int .u8 ((Mo.d a : Nat) : Int)] 123)).alloc (.cells #[.int .u8 0, .int .u16 0, .int .u8 0, .int .u8 0, .int .u8 0] 123) := ⟨_, rfl⟩
  rw [← hw1] at hq ⊢
  have HQ1 := Lib.hid (show Bq w w1 [(w.heap.size, #[.int .u8 ((Mo.m a : Nat) : Int), .int .u16 ((Mo.s a : Nat) : Int), .int .u8 ((Mo.c a : Nat) : Int), .int .u8 ((Mo.n a : Nat) : Int), .int .u8 ((Mo.d a : Nat) : Int)], 123), (w.heap.size + 1, #[.int .u8 0, .int .u16 0, .int .u8 0, .int .u8 0, .int .u8 0], 123)] from hq)
  clear hq hw1
  have b0 := HQ1.out.of 0 rfl
  have c1 := cell_of_row _ _ 1 _ _ _ b0
  have f1 := frozen_of_row _ _ 1 _ _ b0
  clear b0
  by_cases h : a.s < 65535
  · have hu : upM a.s 65535 = a.s + 1 := if_pos h
    have HV := Lib.hid (HQ1.out.set 0 rfl 1 (.int .u16 ((upM a.s 65535 : Nat) : Int)))
    have HU := Lib.hid hu
    have hI : (a.s : Int) < 65535 := by omega
    clear hu h
    go_upto_region 3 with fail
    obtain ⟨w2, hw2⟩ : ∃ w2, w2 = w1.setCell ⟨w.heap.size, 1, none⟩ (.int .u16 ((a.s : Int) + 1)) := ⟨_, rfl⟩
    have HQ := Lib.hid (show Bq w w2 [(w.heap.size, #[.int .u8 ((a.m : Nat) : Int), .int .u16 ((upM a.s 65535 : Nat) : Int), .int .u8 ((a.c : Nat) : Int), .int .u8 ((a.n : Nat) : Int), .int .u8 ((a.d : Nat) : Int)], 123), (w.heap.size + 1, #[.int .u8 0, .int .u16 0, .int .u8 0, .int .u8 0, .int .u8 0], 123)] by
      rw [hw2, show ((a.s : Int) + 1) = ((upM a.s 65535 : Nat) : Int) by rw [HU.out]; omega]; exact HV.out)
    rw [← hw2]
    clear hw2 c1 f1 HV HU HQ1
    skip
    have b0 := HQ.out.of 0 rfl
    have c2 := cell_of_row _ _ 2 _ _ _ b0
    have f2 := frozen_of_row _ _ 2 _ _ b0
    have HV := Lib.hid (HQ.out.set 0 rfl 2 (.int .u8 ((strk a.c calm : Nat) : Int)))
    clear b0
    go_upto_region 4 with (go_at_call 139; refine (streak_any _ _ _ hc).mono ?_; rintro e w' ⟨rfl, rfl⟩)
    obtain ⟨w3, hw3⟩ : ∃ w3, w3 = w2.setCell ⟨w.heap.size, 2, none⟩ (.int .u8 ((strk a.c calm : Nat) : Int)) := ⟨_, rfl⟩
    have HQ3 := Lib.hid (show Bq w w3 [(w.heap.size, #[.int .u8 ((a.m : Nat) : Int), .int .u16 ((upM a.s 65535 : Nat) : Int), .int .u8 ((strk a.c calm : Nat) : Int), .int .u8 ((a.n : Nat) : Int), .int .u8 ((a.d : Nat) : Int)], 123), (w.heap.size + 1, #[.int .u8 0, .int .u16 0, .int .u8 0, .int .u8 0, .int .u8 0], 123)] by rw [hw3]; exact HV.out)
    rw [← hw3]
    clear hw3 c2 f2 HV HQ
    have b0 := HQ3.out.of 0 rfl
    have c3 := cell_of_row _ _ 3 _ _ _ b0
    have f3 := frozen_of_row _ _ 3 _ _ b0
    have HV := Lib.hid (HQ3.out.set 0 rfl 3 (.int .u8 ((strk a.n seen : Nat) : Int)))
    clear b0
    go_upto_region 5 with (go_at_call 139; refine (streak_any _ _ _ hn).mono ?_; rintro e w' ⟨rfl, rfl⟩)
    obtain ⟨w4, hw4⟩ : ∃ w4, w4 = w3.setCell ⟨w.heap.size, 3, none⟩ (.int .u8 ((strk a.n seen : Nat) : Int)) := ⟨_, rfl⟩
    have HQ4 := Lib.hid (show Bq w w4 [(w.heap.size, #[.int .u8 ((a.m : Nat) : Int), .int .u16 ((upM a.s 65535 : Nat) : Int), .int .u8 ((strk a.c calm : Nat) : Int), .int .u8 ((strk a.n seen : Nat) : Int), .int .u8 ((a.d : Nat) : Int)], 123), (w.heap.size + 1, #[.int .u8 0, .int .u16 0, .int .u8 0, .int .u8 0, .int .u8 0], 123)] by rw [hw4]; exact HV.out)
    rw [← hw4]
    clear hw4 c3 f3 HV HQ3
    have b0 := HQ4.out.of 0 rfl
    have c4 := cell_of_row _ _ 4 _ _ _ b0
    have f4 := frozen_of_row _ _ 4 _ _ b0
    have HV := Lib.hid (HQ4.out.set 0 rfl 4 (.int .u8 ((strk a.d (!seen) : Nat) : Int)))
    clear b0
    go_upto_region 6 with (go_at_call 139; refine (streak_any _ _ _ hd).mono ?_; rintro e w' ⟨rfl, rfl⟩)
    obtain ⟨w5, hw5⟩ : ∃ w5, w5 = w4.setCell ⟨w.heap.size, 4, none⟩ (.int .u8 ((strk a.d (!seen) : Nat) : Int)) := ⟨_, rfl⟩
    have hq5 : Bq w w5 [(w.heap.size, #[.int .u8 ((a.m : Nat) : Int), .int .u16 ((upM a.s 65535 : Nat) : Int), .int .u8 ((strk a.c calm : Nat) : Int), .int .u8 ((strk a.n seen : Nat) : Int), .int .u8 ((strk a.d (!seen) : Nat) : Int)], 123), (w.heap.size + 1, #[.int .u8 0, .int .u16 0, .int .u8 0, .int .u8 0, .int .u8 0], 123)] := by rw [hw5]; exact HV.out
    rw [← hw5]
    clear hw5 c4 f4 HV HQ4
    have b0 := hq5.of 0 rfl
    have b1 := hq5.of 1 rfl
    have hq6 := hq5.put 1 rfl #[.int .u8 ((a.m : Nat) : Int), .int .u16 ((upM a.s 65535 : Nat) : Int), .int .u8 ((strk a.c calm : Nat) : Int), .int .u8 ((strk a.n seen : Nat) : Int), .int .u8 ((strk a.d (!seen) : Nat) : Int)]
    have HB2 := Lib.hid (hq6.of 1 rfl)
    have HB := Lib.hid hq6.be
    clear hq5 hq6
    go_wp2_with (first | ((with_reducible show wpList _ _ _ (_ :: _) _ _); refine wpList_load_row rfl 123 _ rfl _ rfl _ _ _ _ b0 Try.underlying123 rfl (by exact size_mo) ?_; (try go_simp)) | ((with_reducible show wpList _ _ _ (_ :: _) _ _); refine wpList_store_row rfl 123 _ _ rfl _ _ rfl rfl _ _ b1 (by exact size_mo) (by rfl) (by simp [Value.oneCell']) ?_))
    refine bodyPost_ret (results_cell_row rfl _ _ _ _ _ _ _ rfl HB2.out Try.underlying123 rfl (by exact size_mo)) rfl ?_
    exact ⟨HE.out, HB.out⟩
  · have hu : upM a.s 65535 = a.s := if_neg h
    have HU := Lib.hid hu
    have hI : ¬ (a.s : Int) < 65535 := by omega
    clear hu h
    go_upto_region 3 with fail
    obtain ⟨w2, hw2⟩ : ∃ w2, w2 = w1 := ⟨_, rfl⟩
    have HQ := Lib.hid (show Bq w w2 [(w.heap.size, #[.int .u8 ((a.m : Nat) : Int), .int .u16 ((upM a.s 65535 : Nat) : Int), .int .u8 ((a.c : Nat) : Int), .int .u8 ((a.n : Nat) : Int), .int .u8 ((a.d : Nat) : Int)], 123), (w.heap.size + 1, #[.int .u8 0, .int .u16 0, .int .u8 0, .int .u8 0, .int .u8 0], 123)] by
      rw [hw2, HU.out]; exact HQ1.out)
    rw [← hw2]
    clear hw2 c1 f1 HU HQ1
    skip
    have b0 := HQ.out.of 0 rfl
    have c2 := cell_of_row _ _ 2 _ _ _ b0
    have f2 := frozen_of_row _ _ 2 _ _ b0
    have HV := Lib.hid (HQ.out.set 0 rfl 2 (.int .u8 ((strk a.c calm : Nat) : Int)))
    clear b0
    go_upto_region 4 with (go_at_call 139; refine (streak_any _ _ _ hc).mono ?_; rintro e w' ⟨rfl, rfl⟩)
    obtain ⟨w3, hw3⟩ : ∃ w3, w3 = w2.setCell ⟨w.heap.size, 2, none⟩ (.int .u8 ((strk a.c calm : Nat) : Int)) := ⟨_, rfl⟩
    have HQ3 := Lib.hid (show Bq w w3 [(w.heap.size, #[.int .u8 ((a.m : Nat) : Int), .int .u16 ((upM a.s 65535 : Nat) : Int), .int .u8 ((strk a.c calm : Nat) : Int), .int .u8 ((a.n : Nat) : Int), .int .u8 ((a.d : Nat) : Int)], 123), (w.heap.size + 1, #[.int .u8 0, .int .u16 0, .int .u8 0, .int .u8 0, .int .u8 0], 123)] by rw [hw3]; exact HV.out)
    rw [← hw3]
    clear hw3 c2 f2 HV HQ
    have b0 := HQ3.out.of 0 rfl
    have c3 := cell_of_row _ _ 3 _ _ _ b0
    have f3 := frozen_of_row _ _ 3 _ _ b0
    have HV := Lib.hid (HQ3.out.set 0 rfl 3 (.int .u8 ((strk a.n seen : Nat) : Int)))
    clear b0
    go_upto_region 5 with (go_at_call 139; refine (streak_any _ _ _ hn).mono ?_; rintro e w' ⟨rfl, rfl⟩)
    obtain ⟨w4, hw4⟩ : ∃ w4, w4 = w3.setCell ⟨w.heap.size, 3, none⟩ (.int .u8 ((strk a.n seen : Nat) : Int)) := ⟨_, rfl⟩
    have HQ4 := Lib.hid (show Bq w w4 [(w.heap.size, #[.int .u8 ((a.m : Nat) : Int), .int .u16 ((upM a.s 65535 : Nat) : Int), .int .u8 ((strk a.c calm : Nat) : Int), .int .u8 ((strk a.n seen : Nat) : Int), .int .u8 ((a.d : Nat) : Int)], 123), (w.heap.size + 1, #[.int .u8 0, .int .u16 0, .int .u8 0, .int .u8 0, .int .u8 0], 123)] by rw [hw4]; exact HV.out)
    rw [← hw4]
    clear hw4 c3 f3 HV HQ3
    have b0 := HQ4.out.of 0 rfl
    have c4 := cell_of_row _ _ 4 _ _ _ b0
    have f4 := frozen_of_row _ _ 4 _ _ b0
    have HV := Lib.hid (HQ4.out.set 0 rfl 4 (.int .u8 ((strk a.d (!seen) : Nat) : Int)))
    clear b0
    go_upto_region 6 with (go_at_call 139; refine (streak_any _ _ _ hd).mono ?_; rintro e w' ⟨rfl, rfl⟩)
    obtain ⟨w5, hw5⟩ : ∃ w5, w5 = w4.setCell ⟨w.heap.size, 4, none⟩ (.int .u8 ((strk a.d (!seen) : Nat) : Int)) := ⟨_, rfl⟩
    have hq5 : Bq w w5 [(w.heap.size, #[.int .u8 ((a.m : Nat) : Int), .int .u16 ((upM a.s 65535 : Nat) : Int), .int .u8 ((strk a.c calm : Nat) : Int), .int .u8 ((strk a.n seen : Nat) : Int), .int .u8 ((strk a.d (!seen) : Nat) : Int)], 123), (w.heap.size + 1, #[.int .u8 0, .int .u16 0, .int .u8 0, .int .u8 0, .int .u8 0], 123)] := by rw [hw5]; exact HV.out
    rw [← hw5]
    clear hw5 c4 f4 HV HQ4
    have b0 := hq5.of 0 rfl
    have b1 := hq5.of 1 rfl
    have hq6 := hq5.put 1 rfl #[.int .u8 ((a.m : Nat) : Int), .int .u16 ((upM a.s 65535 : Nat) : Int), .int .u8 ((strk a.c calm : Nat) : Int), .int .u8 ((strk a.n seen : Nat) : Int), .int .u8 ((strk a.d (!seen) : Nat) : Int)]
    have HB2 := Lib.hid (hq6.of 1 rfl)
    have HB := Lib.hid hq6.be
    clear hq5 hq6
    go_wp2_with (first | ((with_reducible show wpList _ _ _ (_ :: _) _ _); refine wpList_load_row rfl 123 _ rfl _ rfl _ _ _ _ b0 Try.underlying123 rfl (by exact size_mo) ?_; (try go_simp)) | ((with_reducible show wpList _ _ _ (_ :: _) _ _); refine wpList_store_row rfl 123 _ _ rfl _ _ rfl rfl _ _ b1 (by exact size_mo) (by rfl) (by simp [Value.oneCell']) ?_))
    refine bodyPost_ret (results_cell_row rfl _ _ _ _ _ _ _ rfl HB2.out Try.underlying123 rfl (by exact size_mo)) rfl ?_
    exact ⟨HE.out, HB.out⟩
theorem stepM_fell {a : Mo} (c : Cf) (calm seen : Bool) (h : 0 < a.m) : stepM a c calm seen true = (moZ, 1) := if_pos ⟨rfl, h⟩
theorem stepM_on {a : Mo} (c : Cf) (calm seen : Bool) {safe : Bool} (h : safe = true → a.m = 0) : stepM a c calm seen safe = if calmB (cnt a calm seen) c = true then (moS, 2) else if darkB (cnt a calm seen) c = true then (moS, 4) else if lateB (cnt a calm seen) c = true then (moZ, 3) else (cnt a calm seen, 0) := by
  unfold stepM calmB darkB lateB
  rw [if_neg (fun g => by have := h g.1; omega)]
  simp only [decide_eq_true_eq]
  rfl
set_option maxRecDepth 100000 in
set_option maxHeartbeats 8000000 in
theorem Step_any (a : Mo) (c : Cf) (calm seen safe : Bool) (w : World) (ha : a.Ok) (hc : c.Ok) : Calls Try.prog 67 #[.agg #[.int .u8 ((Mo.m a : Nat) : Int), .int .u16 ((Mo.s a : Nat) : Int), .int .u8 ((Mo.c a : Nat) : Int), .int .u8 ((Mo.n a : Nat) : Int), .int .u8 ((Mo.d a : Nat) : Int)], .agg #[.int .u8 ((Cf.calm c : Nat) : Int), .int .u8 ((Cf.seen c : Nat) : Int), .int .u8 ((Cf.lost c : Nat) : Int), .int .u16 ((Cf.t c 0 : Nat) : Int), .int .u16 ((Cf.t c 1 : Nat) : Int), .int .u16 ((Cf.t c 2 : Nat) : Int), .int .u16 ((Cf.t c 3 : Nat) : Int)], .bool calm, .bool seen, .bool safe] w fun e w' => e = .returned (.tuple #[.agg #[.int .u8 ((Mo.m (stepM a c calm seen safe).1 : Nat) : Int), .int .u16 ((Mo.s (stepM a c calm seen safe).1 : Nat) : Int), .int .u8 ((Mo.c (stepM a c calm seen safe).1 : Nat) : Int), .int .u8 ((Mo.n (stepM a c calm seen safe).1 : Nat) : Int), .int .u8 ((Mo.d (stepM a c calm seen safe).1 : Nat) : Int)], .int .u8 (((stepM a c calm seen safe).2 : Nat) : Int)]) ∧ Below w.heap.size w w' := by
  have hz := zero_mo
  obtain ⟨R, hR⟩ : ∃ R, stepM a c calm seen safe = R := ⟨_, rfl⟩
  rw [hR]
  have HR := Lib.hid hR
  clear hR
  have hq := (((Bq.nil w).new #[.int .u8 ((Mo.m a : Nat) : Int), .int .u16 ((Mo.s a : Nat) : Int), .int .u8 ((Mo.c a : Nat) : Int), .int .u8 ((Mo.n a : Nat) : Int), .int .u8 ((Mo.d a : Nat) : Int)] 123).new #[.int .u8 ((Cf.calm c : Nat) : Int), .int .u8 ((Cf.seen c : Nat) : Int), .int .u8 ((Cf.lost c : Nat) : Int), .int .u16 ((Cf.t c 0 : Nat) : Int), .int .u16 ((Cf.t c 1 : Nat) : Int), .int .u16 ((Cf.t c 2 : Nat) : Int), .int .u16 ((Cf.t c 3 : Nat) : Int)] 126).new #[.int .u8 0, .int .u16 0, .int .u8 0, .int .u8 0, .int .u8 0] 123
  go_enter Try.func67, Try.ntmps67
  go_upto_region 1 with fail
  simp only [World.size_alloc] at hq
  obtain ⟨w1, hw1⟩ : ∃ w1, w1 = ((w.alloc (.cells #[.int .u8 ((Mo.m a : Nat) : Int), .int .u16 ((Mo.s a : Nat) : Int), .int .u8 ((Mo.c a : Nat) : Int), .int .u8 ((Mo.n a : Nat) : Int), .int .u8 ((Mo.d a : Nat) : Int)] 123)).alloc (.cells #[.int .u8 ((Cf.calm c : Nat) : Int), .int .u8 ((Cf.seen c : Nat) : Int), .int .u8 ((Cf.lost c : Nat) : Int), .int .u16 ((Cf.t c 0 : Nat) : Int), .int .u16 ((Cf.t c 1 : Nat) : Int), .int .u16 ((Cf.t c 2 : Nat) : Int), .int .u16 ((Cf.t c 3 : Nat) : Int)] 126)).alloc (.cells #[.int .u8 0, .int .u16 0, .int .u8 0, .int .u8 0, .int .u8 0] 123) := ⟨_, rfl⟩
  rw [← hw1] at hq ⊢
  have HQ1 := Lib.hid (show Bq w w1 [(w.heap.size, #[.int .u8 ((Mo.m a : Nat) : Int), .int .u16 ((Mo.s a : Nat) : Int), .int .u8 ((Mo.c a : Nat) : Int), .int .u8 ((Mo.n a : Nat) : Int), .int .u8 ((Mo.d a : Nat) : Int)], 123), (w.heap.size + 1, #[.int .u8 ((Cf.calm c : Nat) : Int), .int .u8 ((Cf.seen c : Nat) : Int), .int .u8 ((Cf.lost c : Nat) : Int), .int .u16 ((Cf.t c 0 : Nat) : Int), .int .u16 ((Cf.t c 1 : Nat) : Int), .int .u16 ((Cf.t c 2 : Nat) : Int), .int .u16 ((Cf.t c 3 : Nat) : Int)], 126), (w.heap.size + 1 + 1, #[.int .u8 0, .int .u16 0, .int .u8 0, .int .u8 0, .int .u8 0], 123)] from hq)
  clear hq hw1
  have c0 := cell_of_row _ _ 0 _ _ _ (HQ1.out.of 0 rfl)
  cases safe
  · rw [stepM_on c calm seen (fun h => by cases h)] at HR
    go_upto_region 3 with fail
    clear c0
    skip
    have b0 := HQ1.out.of 0 rfl
    go_wp2_with ((with_reducible show wpList _ _ _ (_ :: _) _ _); refine wpList_load_row rfl 123 _ rfl _ rfl _ _ _ _ b0 Try.underlying123 rfl (by exact size_mo) ?_; (try go_simp))
    refine (counted_any a calm seen _ ha).mono ?_
    rintro e w2 ⟨rfl, hb⟩
    have hq := HQ1.out.step hb
    have b0 := hq.of 0 rfl
    have HV := Lib.hid (hq.put 0 rfl #[.int .u8 ((Mo.m (cnt a calm seen) : Nat) : Int), .int .u16 ((Mo.s (cnt a calm seen) : Nat) : Int), .int .u8 ((Mo.c (cnt a calm seen) : Nat) : Int), .int .u8 ((Mo.n (cnt a calm seen) : Nat) : Int), .int .u8 ((Mo.d (cnt a calm seen) : Nat) : Int)])
    clear hq hb HQ1
    obtain ⟨b, hb⟩ : ∃ b, cnt a calm seen = b := ⟨_, rfl⟩
    rw [hb] at HV
    rw [hb]
    rw [hb] at HR
    have hbo : b.Ok := by rw [← hb]; exact cnt_ok ha calm seen
    clear hb
    go_upto_region 4 with ((with_reducible show wpList _ _ _ (_ :: _) _ _); refine wpList_store_row rfl 123 _ _ rfl _ _ rfl rfl _ _ b0 (by exact size_mo) (by rfl) (by simp [Value.oneCell']) ?_)
    obtain ⟨w3, hw3⟩ : ∃ w3, w3 = w2.setRow w.heap.size #[.int .u8 ((Mo.m b : Nat) : Int), .int .u16 ((Mo.s b : Nat) : Int), .int .u8 ((Mo.c b : Nat) : Int), .int .u8 ((Mo.n b : Nat) : Int), .int .u8 ((Mo.d b : Nat) : Int)] := ⟨_, rfl⟩
    have HQ3 := Lib.hid (show Bq w w3 [(w.heap.size, #[.int .u8 ((Mo.m b : Nat) : Int), .int .u16 ((Mo.s b : Nat) : Int), .int .u8 ((Mo.c b : Nat) : Int), .int .u8 ((Mo.n b : Nat) : Int), .int .u8 ((Mo.d b : Nat) : Int)], 123), (w.heap.size + 1, #[.int .u8 ((Cf.calm c : Nat) : Int), .int .u8 ((Cf.seen c : Nat) : Int), .int .u8 ((Cf.lost c : Nat) : Int), .int .u16 ((Cf.t c 0 : Nat) : Int), .int .u16 ((Cf.t c 1 : Nat) : Int), .int .u16 ((Cf.t c 2 : Nat) : Int), .int .u16 ((Cf.t c 3 : Nat) : Int)], 126), (w.heap.size + 1 + 1, #[.int .u8 0, .int .u16 0, .int .u8 0, .int .u8 0, .int .u8 0], 123)] by rw [hw3]; exact HV.out)
    rw [← hw3]
    clear hw3 HV b0
    have b0 := HQ3.out.of 0 rfl
    have b1 := HQ3.out.of 1 rfl
    go_wp2_with (first | ((with_reducible show wpList _ _ _ (_ :: _) _ _); refine wpList_load_row rfl 123 _ rfl _ rfl _ _ _ _ b0 Try.underlying123 rfl (by exact size_mo) ?_; (try go_simp)) | ((with_reducible show wpList _ _ _ (_ :: _) _ _); refine wpList_load_row rfl 126 _ rfl _ rfl _ _ _ _ b1 Try.underlying126 rfl (by exact size_cf) ?_; (try go_simp)))
    refine (calmed_any b c _).mono ?_
    rintro e w4 ⟨rfl, hb⟩
    have HQ4 := Lib.hid (HQ3.out.step hb)
    clear hb HQ3 b0 b1
    cases h1 : calmB b c
    · rw [h1, if_neg (by decide)] at HR
      clear h1
      have b0 := HQ4.out.of 0 rfl
      have b1 := HQ4.out.of 1 rfl
      go_wp2_with (first | ((with_reducible show wpList _ _ _ (_ :: _) _ _); refine wpList_load_row rfl 123 _ rfl _ rfl _ _ _ _ b0 Try.underlying123 rfl (by exact size_mo) ?_; (try go_simp)) | ((with_reducible show wpList _ _ _ (_ :: _) _ _); refine wpList_load_row rfl 126 _ rfl _ rfl _ _ _ _ b1 Try.underlying126 rfl (by exact size_cf) ?_; (try go_simp)))
      refine (darkened_any b c _).mono ?_
      rintro e w5 ⟨rfl, hb⟩
      have HQ5 := Lib.hid (HQ4.out.step hb)
      clear hb HQ4 b0 b1
      cases h2 : darkB b c
      · rw [h2, if_neg (by decide)] at HR
        clear h2
        have b0 := HQ5.out.of 0 rfl
        have b1 := HQ5.out.of 1 rfl
        go_wp2_with (first | ((with_reducible show wpList _ _ _ (_ :: _) _ _); refine wpList_load_row rfl 123 _ rfl _ rfl _ _ _ _ b0 Try.underlying123 rfl (by exact size_mo) ?_; (try go_simp)) | ((with_reducible show wpList _ _ _ (_ :: _) _ _); refine wpList_load_row rfl 126 _ rfl _ rfl _ _ _ _ b1 Try.underlying126 rfl (by exact size_cf) ?_; (try go_simp)))
        refine (late_any b c _ hbo hc).mono ?_
        rintro e w6 ⟨rfl, hb⟩
        have HQ := Lib.hid (HQ5.out.step hb)
        clear hb HQ5 b0 b1
        cases h3 : lateB b c
        · rw [h3, if_neg (by decide)] at HR
          clear h3
          skip
          have hq := HQ.out.put 2 rfl #[.int .u8 ((Mo.m b : Nat) : Int), .int .u16 ((Mo.s b : Nat) : Int), .int .u8 ((Mo.c b : Nat) : Int), .int .u8 ((Mo.n b : Nat) : Int), .int .u8 ((Mo.d b : Nat) : Int)]
          have HB2 := Lib.hid (hq.of 2 rfl)
          have HB := Lib.hid hq.be
          have b2 := HQ.out.of 2 rfl
          have b0 := HQ.out.of 0 rfl
          clear hq
          go_wp2_with (first | ((with_reducible show wpList _ _ _ (_ :: _) _ _); refine wpList_load_row rfl 123 _ rfl _ rfl _ _ _ _ b0 Try.underlying123 rfl (by exact size_mo) ?_; (try go_simp)) | ((with_reducible show wpList _ _ _ (_ :: _) _ _); refine wpList_store_row rfl 123 _ _ rfl _ _ rfl rfl _ _ b2 (by exact size_mo) (by rfl) (by simp [Value.oneCell']) ?_))
          skip
          refine bodyPost_ret (results_ct rfl _ _ _ _ _ _ rfl HB2.out Try.underlying123 rfl (by exact size_mo)) rfl ?_
          exact ⟨by rw [← HR.out]; rfl, HB.out⟩
        · rw [h3, if_pos rfl] at HR
          clear h3
          skip
          have b0 := HQ.out.of 0 rfl
          go_wp2_with ((with_reducible show wpList _ _ _ (_ :: _) _ _); refine wpList_load_row rfl 123 _ rfl _ rfl _ _ _ _ b0 Try.underlying123 rfl (by exact size_mo) ?_; (try go_simp))
          refine (Fall_any _ _).mono ?_
          rintro e w9 ⟨rfl, hb⟩
          have HQ' := Lib.hid (HQ.out.step hb)
          clear hb HQ b0
          have HQ := HQ'
          clear HQ'
          skip
          have hq := HQ.out.put 2 rfl #[.int .u8 0, .int .u16 0, .int .u8 0, .int .u8 0, .int .u8 0]
          have HB2 := Lib.hid (hq.of 2 rfl)
          have HB := Lib.hid hq.be
          have b2 := HQ.out.of 2 rfl
          have b0 := HQ.out.of 0 rfl
          clear hq
          go_wp2_with ((with_reducible show wpList _ _ _ (_ :: _) _ _); refine wpList_store_row rfl 123 _ _ rfl _ _ rfl rfl _ _ b2 (by exact size_mo) (by rfl) (by simp [Value.oneCell']) ?_)
          skip
          refine bodyPost_ret (results_ct rfl _ _ _ _ _ _ rfl HB2.out Try.underlying123 rfl (by exact size_mo)) rfl ?_
          exact ⟨by rw [← HR.out]; rfl, HB.out⟩
      · rw [h2, if_pos rfl] at HR
        clear h2
        have HQ := HQ5
        clear HQ5
        skip
        go_wp2_with fail
        go_at_call 120
        refine (in_any 2 _ (by decide)).mono ?_
        rintro e w9 ⟨rfl, hb⟩
        have HQ' := Lib.hid (HQ.out.step hb)
        clear hb HQ
        have HQ := HQ'
        clear HQ'
        skip
        have hq := HQ.out.put 2 rfl #[.int .u8 ((2 : Nat) : Int), .int .u16 ((0 : Nat) : Int), .int .u8 ((0 : Nat) : Int), .int .u8 ((0 : Nat) : Int), .int .u8 ((0 : Nat) : Int)]
        have HB2 := Lib.hid (hq.of 2 rfl)
        have HB := Lib.hid hq.be
        have b2 := HQ.out.of 2 rfl
        have b0 := HQ.out.of 0 rfl
        clear hq
        go_wp2_with ((with_reducible show wpList _ _ _ (_ :: _) _ _); refine wpList_store_row rfl 123 _ _ rfl _ _ rfl rfl _ _ b2 (by exact size_mo) (by rfl) (by simp [Value.oneCell']) ?_)
        skip
        refine bodyPost_ret (results_ct rfl _ _ _ _ _ _ rfl HB2.out Try.underlying123 rfl (by exact size_mo)) rfl ?_
        exact ⟨by rw [← HR.out]; rfl, HB.out⟩
    · rw [h1, if_pos rfl] at HR
      clear h1
      have HQ := HQ4
      clear HQ4
      skip
      go_wp2_with fail
      go_at_call 120
      refine (in_any 2 _ (by decide)).mono ?_
      rintro e w9 ⟨rfl, hb⟩
      have HQ' := Lib.hid (HQ.out.step hb)
      clear hb HQ
      have HQ := HQ'
      clear HQ'
      skip
      have hq := HQ.out.put 2 rfl #[.int .u8 ((2 : Nat) : Int), .int .u16 ((0 : Nat) : Int), .int .u8 ((0 : Nat) : Int), .int .u8 ((0 : Nat) : Int), .int .u8 ((0 : Nat) : Int)]
      have HB2 := Lib.hid (hq.of 2 rfl)
      have HB := Lib.hid hq.be
      have b2 := HQ.out.of 2 rfl
      have b0 := HQ.out.of 0 rfl
      clear hq
      go_wp2_with ((with_reducible show wpList _ _ _ (_ :: _) _ _); refine wpList_store_row rfl 123 _ _ rfl _ _ rfl rfl _ _ b2 (by exact size_mo) (by rfl) (by simp [Value.oneCell']) ?_)
      skip
      refine bodyPost_ret (results_ct rfl _ _ _ _ _ _ rfl HB2.out Try.underlying123 rfl (by exact size_mo)) rfl ?_
      exact ⟨by rw [← HR.out]; rfl, HB.out⟩
  · rcases Nat.eq_zero_or_pos a.m with h | h
    · rw [stepM_on c calm seen (fun _ => h)] at HR
      go_upto_region 3 with fail
      clear c0 h
      skip
      have b0 := HQ1.out.of 0 rfl
      go_wp2_with ((with_reducible show wpList _ _ _ (_ :: _) _ _); refine wpList_load_row rfl 123 _ rfl _ rfl _ _ _ _ b0 Try.underlying123 rfl (by exact size_mo) ?_; (try go_simp))
      refine (counted_any a calm seen _ ha).mono ?_
      rintro e w2 ⟨rfl, hb⟩
      have hq := HQ1.out.step hb
      have b0 := hq.of 0 rfl
      have HV := Lib.hid (hq.put 0 rfl #[.int .u8 ((Mo.m (cnt a calm seen) : Nat) : Int), .int .u16 ((Mo.s (cnt a calm seen) : Nat) : Int), .int .u8 ((Mo.c (cnt a calm seen) : Nat) : Int), .int .u8 ((Mo.n (cnt a calm seen) : Nat) : Int), .int .u8 ((Mo.d (cnt a calm seen) : Nat) : Int)])
      clear hq hb HQ1
      obtain ⟨b, hb⟩ : ∃ b, cnt a calm seen = b := ⟨_, rfl⟩
      rw [hb] at HV
      rw [hb]
      rw [hb] at HR
      have hbo : b.Ok := by rw [← hb]; exact cnt_ok ha calm seen
      clear hb
      go_upto_region 4 with ((with_reducible show wpList _ _ _ (_ :: _) _ _); refine wpList_store_row rfl 123 _ _ rfl _ _ rfl rfl _ _ b0 (by exact size_mo) (by rfl) (by simp [Value.oneCell']) ?_)
      obtain ⟨w3, hw3⟩ : ∃ w3, w3 = w2.setRow w.heap.size #[.int .u8 ((Mo.m b : Nat) : Int), .int .u16 ((Mo.s b : Nat) : Int), .int .u8 ((Mo.c b : Nat) : Int), .int .u8 ((Mo.n b : Nat) : Int), .int .u8 ((Mo.d b : Nat) : Int)] := ⟨_, rfl⟩
      have HQ3 := Lib.hid (show Bq w w3 [(w.heap.size, #[.int .u8 ((Mo.m b : Nat) : Int), .int .u16 ((Mo.s b : Nat) : Int), .int .u8 ((Mo.c b : Nat) : Int), .int .u8 ((Mo.n b : Nat) : Int), .int .u8 ((Mo.d b : Nat) : Int)], 123), (w.heap.size + 1, #[.int .u8 ((Cf.calm c : Nat) : Int), .int .u8 ((Cf.seen c : Nat) : Int), .int .u8 ((Cf.lost c : Nat) : Int), .int .u16 ((Cf.t c 0 : Nat) : Int), .int .u16 ((Cf.t c 1 : Nat) : Int), .int .u16 ((Cf.t c 2 : Nat) : Int), .int .u16 ((Cf.t c 3 : Nat) : Int)], 126), (w.heap.size + 1 + 1, #[.int .u8 0, .int .u16 0, .int .u8 0, .int .u8 0, .int .u8 0], 123)] by rw [hw3]; exact HV.out)
      rw [← hw3]
      clear hw3 HV b0
      have b0 := HQ3.out.of 0 rfl
      have b1 := HQ3.out.of 1 rfl
      go_wp2_with (first | ((with_reducible show wpList _ _ _ (_ :: _) _ _); refine wpList_load_row rfl 123 _ rfl _ rfl _ _ _ _ b0 Try.underlying123 rfl (by exact size_mo) ?_; (try go_simp)) | ((with_reducible show wpList _ _ _ (_ :: _) _ _); refine wpList_load_row rfl 126 _ rfl _ rfl _ _ _ _ b1 Try.underlying126 rfl (by exact size_cf) ?_; (try go_simp)))
      refine (calmed_any b c _).mono ?_
      rintro e w4 ⟨rfl, hb⟩
      have HQ4 := Lib.hid (HQ3.out.step hb)
      clear hb HQ3 b0 b1
      cases h1 : calmB b c
      · rw [h1, if_neg (by decide)] at HR
        clear h1
        have b0 := HQ4.out.of 0 rfl
        have b1 := HQ4.out.of 1 rfl
        go_wp2_with (first | ((with_reducible show wpList _ _ _ (_ :: _) _ _); refine wpList_load_row rfl 123 _ rfl _ rfl _ _ _ _ b0 Try.underlying123 rfl (by exact size_mo) ?_; (try go_simp)) | ((with_reducible show wpList _ _ _ (_ :: _) _ _); refine wpList_load_row rfl 126 _ rfl _ rfl _ _ _ _ b1 Try.underlying126 rfl (by exact size_cf) ?_; (try go_simp)))
        refine (darkened_any b c _).mono ?_
        rintro e w5 ⟨rfl, hb⟩
        have HQ5 := Lib.hid (HQ4.out.step hb)
        clear hb HQ4 b0 b1
        cases h2 : darkB b c
        · rw [h2, if_neg (by decide)] at HR
          clear h2
          have b0 := HQ5.out.of 0 rfl
          have b1 := HQ5.out.of 1 rfl
          go_wp2_with (first | ((with_reducible show wpList _ _ _ (_ :: _) _ _); refine wpList_load_row rfl 123 _ rfl _ rfl _ _ _ _ b0 Try.underlying123 rfl (by exact size_mo) ?_; (try go_simp)) | ((with_reducible show wpList _ _ _ (_ :: _) _ _); refine wpList_load_row rfl 126 _ rfl _ rfl _ _ _ _ b1 Try.underlying126 rfl (by exact size_cf) ?_; (try go_simp)))
          refine (late_any b c _ hbo hc).mono ?_
          rintro e w6 ⟨rfl, hb⟩
          have HQ := Lib.hid (HQ5.out.step hb)
          clear hb HQ5 b0 b1
          cases h3 : lateB b c
          · rw [h3, if_neg (by decide)] at HR
            clear h3
            skip
            have hq := HQ.out.put 2 rfl #[.int .u8 ((Mo.m b : Nat) : Int), .int .u16 ((Mo.s b : Nat) : Int), .int .u8 ((Mo.c b : Nat) : Int), .int .u8 ((Mo.n b : Nat) : Int), .int .u8 ((Mo.d b : Nat) : Int)]
            have HB2 := Lib.hid (hq.of 2 rfl)
            have HB := Lib.hid hq.be
            have b2 := HQ.out.of 2 rfl
            have b0 := HQ.out.of 0 rfl
            clear hq
            go_wp2_with (first | ((with_reducible show wpList _ _ _ (_ :: _) _ _); refine wpList_load_row rfl 123 _ rfl _ rfl _ _ _ _ b0 Try.underlying123 rfl (by exact size_mo) ?_; (try go_simp)) | ((with_reducible show wpList _ _ _ (_ :: _) _ _); refine wpList_store_row rfl 123 _ _ rfl _ _ rfl rfl _ _ b2 (by exact size_mo) (by rfl) (by simp [Value.oneCell']) ?_))
            skip
            refine bodyPost_ret (results_ct rfl _ _ _ _ _ _ rfl HB2.out Try.underlying123 rfl (by exact size_mo)) rfl ?_
            exact ⟨by rw [← HR.out]; rfl, HB.out⟩
          · rw [h3, if_pos rfl] at HR
            clear h3
            skip
            have b0 := HQ.out.of 0 rfl
            go_wp2_with ((with_reducible show wpList _ _ _ (_ :: _) _ _); refine wpList_load_row rfl 123 _ rfl _ rfl _ _ _ _ b0 Try.underlying123 rfl (by exact size_mo) ?_; (try go_simp))
            refine (Fall_any _ _).mono ?_
            rintro e w9 ⟨rfl, hb⟩
            have HQ' := Lib.hid (HQ.out.step hb)
            clear hb HQ b0
            have HQ := HQ'
            clear HQ'
            skip
            have hq := HQ.out.put 2 rfl #[.int .u8 0, .int .u16 0, .int .u8 0, .int .u8 0, .int .u8 0]
            have HB2 := Lib.hid (hq.of 2 rfl)
            have HB := Lib.hid hq.be
            have b2 := HQ.out.of 2 rfl
            have b0 := HQ.out.of 0 rfl
            clear hq
            go_wp2_with ((with_reducible show wpList _ _ _ (_ :: _) _ _); refine wpList_store_row rfl 123 _ _ rfl _ _ rfl rfl _ _ b2 (by exact size_mo) (by rfl) (by simp [Value.oneCell']) ?_)
            skip
            refine bodyPost_ret (results_ct rfl _ _ _ _ _ _ rfl HB2.out Try.underlying123 rfl (by exact size_mo)) rfl ?_
            exact ⟨by rw [← HR.out]; rfl, HB.out⟩
        · rw [h2, if_pos rfl] at HR
          clear h2
          have HQ := HQ5
          clear HQ5
          skip
          go_wp2_with fail
          go_at_call 120
          refine (in_any 2 _ (by decide)).mono ?_
          rintro e w9 ⟨rfl, hb⟩
          have HQ' := Lib.hid (HQ.out.step hb)
          clear hb HQ
          have HQ := HQ'
          clear HQ'
          skip
          have hq := HQ.out.put 2 rfl #[.int .u8 ((2 : Nat) : Int), .int .u16 ((0 : Nat) : Int), .int .u8 ((0 : Nat) : Int), .int .u8 ((0 : Nat) : Int), .int .u8 ((0 : Nat) : Int)]
          have HB2 := Lib.hid (hq.of 2 rfl)
          have HB := Lib.hid hq.be
          have b2 := HQ.out.of 2 rfl
          have b0 := HQ.out.of 0 rfl
          clear hq
          go_wp2_with ((with_reducible show wpList _ _ _ (_ :: _) _ _); refine wpList_store_row rfl 123 _ _ rfl _ _ rfl rfl _ _ b2 (by exact size_mo) (by rfl) (by simp [Value.oneCell']) ?_)
          skip
          refine bodyPost_ret (results_ct rfl _ _ _ _ _ _ rfl HB2.out Try.underlying123 rfl (by exact size_mo)) rfl ?_
          exact ⟨by rw [← HR.out]; rfl, HB.out⟩
      · rw [h1, if_pos rfl] at HR
        clear h1
        have HQ := HQ4
        clear HQ4
        skip
        go_wp2_with fail
        go_at_call 120
        refine (in_any 2 _ (by decide)).mono ?_
        rintro e w9 ⟨rfl, hb⟩
        have HQ' := Lib.hid (HQ.out.step hb)
        clear hb HQ
        have HQ := HQ'
        clear HQ'
        skip
        have hq := HQ.out.put 2 rfl #[.int .u8 ((2 : Nat) : Int), .int .u16 ((0 : Nat) : Int), .int .u8 ((0 : Nat) : Int), .int .u8 ((0 : Nat) : Int), .int .u8 ((0 : Nat) : Int)]
        have HB2 := Lib.hid (hq.of 2 rfl)
        have HB := Lib.hid hq.be
        have b2 := HQ.out.of 2 rfl
        have b0 := HQ.out.of 0 rfl
        clear hq
        go_wp2_with ((with_reducible show wpList _ _ _ (_ :: _) _ _); refine wpList_store_row rfl 123 _ _ rfl _ _ rfl rfl _ _ b2 (by exact size_mo) (by rfl) (by simp [Value.oneCell']) ?_)
        skip
        refine bodyPost_ret (results_ct rfl _ _ _ _ _ _ rfl HB2.out Try.underlying123 rfl (by exact size_mo)) rfl ?_
        exact ⟨by rw [← HR.out]; rfl, HB.out⟩
    · rw [stepM_fell c calm seen h] at HR
      go_upto_region 2 with fail
      have HQ := HQ1
      clear HQ1 c0 h
      skip
      have b0 := HQ.out.of 0 rfl
      go_wp2_with ((with_reducible show wpList _ _ _ (_ :: _) _ _); refine wpList_load_row rfl 123 _ rfl _ rfl _ _ _ _ b0 Try.underlying123 rfl (by exact size_mo) ?_; (try go_simp))
      refine (Fall_any _ _).mono ?_
      rintro e w9 ⟨rfl, hb⟩
      have HQ' := Lib.hid (HQ.out.step hb)
      clear hb HQ b0
      have HQ := HQ'
      clear HQ'
      skip
      have hq := HQ.out.put 2 rfl #[.int .u8 0, .int .u16 0, .int .u8 0, .int .u8 0, .int .u8 0]
      have HB2 := Lib.hid (hq.of 2 rfl)
      have HB := Lib.hid hq.be
      have b2 := HQ.out.of 2 rfl
      have b0 := HQ.out.of 0 rfl
      clear hq
      go_wp2_with ((with_reducible show wpList _ _ _ (_ :: _) _ _); refine wpList_store_row rfl 123 _ _ rfl _ _ rfl rfl _ _ b2 (by exact size_mo) (by rfl) (by simp [Value.oneCell']) ?_)
      skip
      refine bodyPost_ret (results_ct rfl _ _ _ _ _ _ rfl HB2.out Try.underlying123 rfl (by exact size_mo)) rfl ?_
      exact ⟨by rw [← HR.out]; rfl, HB.out⟩
theorem ask_bad {a : Mo} (c : Cf) {m : Nat} (h : 4 ≤ m) : askM 1 7 a c m = (a, 1) := by unfold askM; rw [if_neg (by omega), if_pos (by omega)]
theorem ask_zero (a : Mo) (c : Cf) : askM 1 7 a c 0 = (moZ, 0) := rfl
theorem ask_same {a : Mo} (c : Cf) {m : Nat} (h0 : m ≠ 0) (h : m < 4) (he : m = a.m) : askM 1 7 a c m = (a, 0) := by unfold askM; rw [if_neg h0, if_neg (by omega), if_pos he]
theorem ask_else {a : Mo} (c : Cf) {m : Nat} (h0 : m ≠ 0) (h : m < 4) (he : m ≠ a.m) : askM 1 7 a c m = if decide (mayM a c m) = true then (moI m, 0) else (a, 7) := by
  unfold askM
  rw [if_neg h0, if_neg (by omega), if_neg he]
  simp only [decide_eq_true_eq]
  rfl
set_option maxRecDepth 100000 in
set_option maxHeartbeats 8000000 in
theorem Ask_any (a : Mo) (c : Cf) (m : Nat) (w : World) (ha : a.Ok) (hc : c.Ok) (hm : m < 256) : Calls Try.prog 69 #[.agg #[.int .u8 ((Mo.m a : Nat) : Int), .int .u16 ((Mo.s a : Nat) : Int), .int .u8 ((Mo.c a : Nat) : Int), .int .u8 ((Mo.n a : Nat) : Int), .int .u8 ((Mo.d a : Nat) : Int)], .agg #[.int .u8 ((Cf.calm c : Nat) : Int), .int .u8 ((Cf.seen c : Nat) : Int), .int .u8 ((Cf.lost c : Nat) : Int), .int .u16 ((Cf.t c 0 : Nat) : Int), .int .u16 ((Cf.t c 1 : Nat) : Int), .int .u16 ((Cf.t c 2 : Nat) : Int), .int .u16 ((Cf.t c 3 : Nat) : Int)], .int .u8 (m : Nat)] w fun e w' => e = .returned (.tuple #[.agg #[.int .u8 ((Mo.m (askM 1 7 a c m).1 : Nat) : Int), .int .u16 ((Mo.s (askM 1 7 a c m).1 : Nat) : Int), .int .u8 ((Mo.c (askM 1 7 a c m).1 : Nat) : Int), .int .u8 ((Mo.n (askM 1 7 a c m).1 : Nat) : Int), .int .u8 ((Mo.d (askM 1 7 a c m).1 : Nat) : Int)], .int .i64 (((askM 1 7 a c m).2 : Nat) : Int)]) ∧ Below w.heap.size w w' := by
  have hz := zero_mo
  obtain ⟨R, hR⟩ : ∃ R, askM 1 7 a c m = R := ⟨_, rfl⟩
  rw [hR]
  have HR := Lib.hid hR
  clear hR
  have hq := (((Bq.nil w).new #[.int .u8 ((Mo.m a : Nat) : Int), .int .u16 ((Mo.s a : Nat) : Int), .int .u8 ((Mo.c a : Nat) : Int), .int .u8 ((Mo.n a : Nat) : Int), .int .u8 ((Mo.d a : Nat) : Int)] 123).new #[.int .u8 ((Cf.calm c : Nat) : Int), .int .u8 ((Cf.seen c : Nat) : Int), .int .u8 ((Cf.lost c : Nat) : Int), .int .u16 ((Cf.t c 0 : Nat) : Int), .int .u16 ((Cf.t c 1 : Nat) : Int), .int .u16 ((Cf.t c 2 : Nat) : Int), .int .u16 ((Cf.t c 3 : Nat) : Int)] 126).new #[.int .u8 0, .int .u16 0, .int .u8 0, .int .u8 0, .int .u8 0] 123
  go_enter Try.func69, Try.ntmps69
  go_upto_region 1 with fail
  simp only [World.size_alloc] at hq
  obtain ⟨w1, hw1⟩ : ∃ w1, w1 = ((w.alloc (.cells #[.int .u8 ((Mo.m a : Nat) : Int), .int .u16 ((Mo.s a : Nat) : Int), .int .u8 ((Mo.c a : Nat) : Int), .int .u8 ((Mo.n a : Nat) : Int), .int .u8 ((Mo.d a : Nat) : Int)] 123)).alloc (.cells #[.int .u8 ((Cf.calm c : Nat) : Int), .int .u8 ((Cf.seen c : Nat) : Int), .int .u8 ((Cf.lost c : Nat) : Int), .int .u16 ((Cf.t c 0 : Nat) : Int), .int .u16 ((Cf.t c 1 : Nat) : Int), .int .u16 ((Cf.t c 2 : Nat) : Int), .int .u16 ((Cf.t c 3 : Nat) : Int)] 126)).alloc (.cells #[.int .u8 0, .int .u16 0, .int .u8 0, .int .u8 0, .int .u8 0] 123) := ⟨_, rfl⟩
  rw [← hw1] at hq ⊢
  have HQ := Lib.hid (show Bq w w1 [(w.heap.size, #[.int .u8 ((Mo.m a : Nat) : Int), .int .u16 ((Mo.s a : Nat) : Int), .int .u8 ((Mo.c a : Nat) : Int), .int .u8 ((Mo.n a : Nat) : Int), .int .u8 ((Mo.d a : Nat) : Int)], 123), (w.heap.size + 1, #[.int .u8 ((Cf.calm c : Nat) : Int), .int .u8 ((Cf.seen c : Nat) : Int), .int .u8 ((Cf.lost c : Nat) : Int), .int .u16 ((Cf.t c 0 : Nat) : Int), .int .u16 ((Cf.t c 1 : Nat) : Int), .int .u16 ((Cf.t c 2 : Nat) : Int), .int .u16 ((Cf.t c 3 : Nat) : Int)], 126), (w.heap.size + 1 + 1, #[.int .u8 0, .int .u16 0, .int .u8 0, .int .u8 0, .int .u8 0], 123)] from hq)
  clear hq hw1
  go_wp2_with fail
  go_at_call 117
  refine (isMode_any m _ hm).mono ?_
  rintro e w' ⟨rfl, rfl⟩
  by_cases h4 : m < 4
  · rw [decide_eq_true h4]
    rcases Nat.eq_zero_or_pos m with rfl | h0
    · rw [ask_zero] at HR
      go_upto_region 4 with fail
      skip
      have b0 := HQ.out.of 0 rfl
      go_wp2_with ((with_reducible show wpList _ _ _ (_ :: _) _ _); refine wpList_load_row rfl 123 _ rfl _ rfl _ _ _ _ b0 Try.underlying123 rfl (by exact size_mo) ?_; (try go_simp))
      refine (Fall_any _ _).mono ?_
      rintro e w9 ⟨rfl, hb⟩
      have HQ' := Lib.hid (HQ.out.step hb)
      clear hb HQ b0
      have HQ := HQ'
      clear HQ'
      skip
      have hq := HQ.out.put 2 rfl #[.int .u8 0, .int .u16 0, .int .u8 0, .int .u8 0, .int .u8 0]
      have HB2 := Lib.hid (hq.of 2 rfl)
      have HB := Lib.hid hq.be
      have b2 := HQ.out.of 2 rfl
      have b0 := HQ.out.of 0 rfl
      clear hq
      go_wp2_with ((with_reducible show wpList _ _ _ (_ :: _) _ _); refine wpList_store_row rfl 123 _ _ rfl _ _ rfl rfl _ _ b2 (by exact size_mo) (by rfl) (by simp [Value.oneCell']) ?_)
      skip
      refine bodyPost_ret (results_ct rfl _ _ _ _ _ _ rfl HB2.out Try.underlying123 rfl (by exact size_mo)) rfl ?_
      exact ⟨by rw [← HR.out]; rfl, HB.out⟩
    · by_cases he : m = a.m
      · rw [ask_same c (by omega) h4 he] at HR
        have hbe : ((m : Int) == (a.m : Int)) = true := by rw [beq_iff_eq]; omega
        have c0 := cell_of_row _ _ 0 _ _ _ (HQ.out.of 0 rfl)
        clear h4 he
        go_upto_region 6 with fail
        clear c0 hbe h0
        skip
        skip
        have hq := HQ.out.put 2 rfl #[.int .u8 ((Mo.m a : Nat) : Int), .int .u16 ((Mo.s a : Nat) : Int), .int .u8 ((Mo.c a : Nat) : Int), .int .u8 ((Mo.n a : Nat) : Int), .int .u8 ((Mo.d a : Nat) : Int)]
        have HB2 := Lib.hid (hq.of 2 rfl)
        have HB := Lib.hid hq.be
        have b2 := HQ.out.of 2 rfl
        have b0 := HQ.out.of 0 rfl
        clear hq
        go_wp2_with (first | ((with_reducible show wpList _ _ _ (_ :: _) _ _); refine wpList_load_row rfl 123 _ rfl _ rfl _ _ _ _ b0 Try.underlying123 rfl (by exact size_mo) ?_; (try go_simp)) | ((with_reducible show wpList _ _ _ (_ :: _) _ _); refine wpList_store_row rfl 123 _ _ rfl _ _ rfl rfl _ _ b2 (by exact size_mo) (by rfl) (by simp [Value.oneCell']) ?_))
        skip
        refine bodyPost_ret (results_ct rfl _ _ _ _ _ _ rfl HB2.out Try.underlying123 rfl (by exact size_mo)) rfl ?_
        exact ⟨by rw [← HR.out]; rfl, HB.out⟩
      · rw [ask_else c (by omega) h4 he] at HR
        have hbe : ((m : Int) == (a.m : Int)) = false := by rw [beq_eq_false_iff_ne]; omega
        have hb0 : ((m : Int) == 0) = false := by rw [beq_eq_false_iff_ne]; omega
        have c0 := cell_of_row _ _ 0 _ _ _ (HQ.out.of 0 rfl)
        have HA := Lib.hid (allows_any a c m · h4 h0)
        have HI := Lib.hid (in_any m · hm)
        clear h4 he h0
        go_upto_region 7 with fail
        clear c0 hbe hb0
        have b0 := HQ.out.of 0 rfl
        have b1 := HQ.out.of 1 rfl
        go_wp2_with (first | ((with_reducible show wpList _ _ _ (_ :: _) _ _); refine wpList_load_row rfl 123 _ rfl _ rfl _ _ _ _ b0 Try.underlying123 rfl (by exact size_mo) ?_; (try go_simp)) | ((with_reducible show wpList _ _ _ (_ :: _) _ _); refine wpList_load_row rfl 126 _ rfl _ rfl _ _ _ _ b1 Try.underlying126 rfl (by exact size_cf) ?_; (try go_simp)))
        refine (HA.out _).mono ?_
        rintro e w2 ⟨rfl, hb⟩
        have HQ2 := Lib.hid (HQ.out.step hb)
        clear hb HQ b0 b1 HA
        cases hy : decide (mayM a c m)
        · rw [hy, if_neg (by decide)] at HR
          clear hy
          have HQ := HQ2
          clear HQ2
          skip
          skip
          have hq := HQ.out.put 2 rfl #[.int .u8 ((Mo.m a : Nat) : Int), .int .u16 ((Mo.s a : Nat) : Int), .int .u8 ((Mo.c a : Nat) : Int), .int .u8 ((Mo.n a : Nat) : Int), .int .u8 ((Mo.d a : Nat) : Int)]
          have HB2 := Lib.hid (hq.of 2 rfl)
          have HB := Lib.hid hq.be
          have b2 := HQ.out.of 2 rfl
          have b0 := HQ.out.of 0 rfl
          clear hq
          go_wp2_with (first | ((with_reducible show wpList _ _ _ (_ :: _) _ _); refine wpList_load_row rfl 123 _ rfl _ rfl _ _ _ _ b0 Try.underlying123 rfl (by exact size_mo) ?_; (try go_simp)) | ((with_reducible show wpList _ _ _ (_ :: _) _ _); refine wpList_store_row rfl 123 _ _ rfl _ _ rfl rfl _ _ b2 (by exact size_mo) (by rfl) (by simp [Value.oneCell']) ?_))
          skip
          refine bodyPost_ret (results_ct rfl _ _ _ _ _ _ rfl HB2.out Try.underlying123 rfl (by exact size_mo)) rfl ?_
          exact ⟨by rw [← HR.out]; rfl, HB.out⟩
        · rw [hy, if_pos rfl] at HR
          clear hy
          go_wp2_with fail
          go_at_call 120
          refine (HI.out _).mono ?_
          rintro e w9 ⟨rfl, hb⟩
          have HQ := Lib.hid (HQ2.out.step hb)
          clear hb HQ2
          skip
          have hq := HQ.out.put 2 rfl #[.int .u8 ((m : Nat) : Int), .int .u16 ((0 : Nat) : Int), .int .u8 ((0 : Nat) : Int), .int .u8 ((0 : Nat) : Int), .int .u8 ((0 : Nat) : Int)]
          have HB2 := Lib.hid (hq.of 2 rfl)
          have HB := Lib.hid hq.be
          have b2 := HQ.out.of 2 rfl
          have b0 := HQ.out.of 0 rfl
          clear hq
          go_wp2_with ((with_reducible show wpList _ _ _ (_ :: _) _ _); refine wpList_store_row rfl 123 _ _ rfl _ _ rfl rfl _ _ b2 (by exact size_mo) (by rfl) (by simp [Value.oneCell']) ?_)
          skip
          refine bodyPost_ret (results_ct rfl _ _ _ _ _ _ rfl HB2.out Try.underlying123 rfl (by exact size_mo)) rfl ?_
          exact ⟨by rw [← HR.out]; rfl, HB.out⟩
  · rw [decide_eq_false h4]
    rw [ask_bad c (by omega)] at HR
    skip
    skip
    have hq := HQ.out.put 2 rfl #[.int .u8 ((Mo.m a : Nat) : Int), .int .u16 ((Mo.s a : Nat) : Int), .int .u8 ((Mo.c a : Nat) : Int), .int .u8 ((Mo.n a : Nat) : Int), .int .u8 ((Mo.d a : Nat) : Int)]
    have HB2 := Lib.hid (hq.of 2 rfl)
    have HB := Lib.hid hq.be
    have b2 := HQ.out.of 2 rfl
    have b0 := HQ.out.of 0 rfl
    clear hq
    go_wp2_with (first | ((with_reducible show wpList _ _ _ (_ :: _) _ _); refine wpList_load_row rfl 123 _ rfl _ rfl _ _ _ _ b0 Try.underlying123 rfl (by exact size_mo) ?_; (try go_simp)) | ((with_reducible show wpList _ _ _ (_ :: _) _ _); refine wpList_store_row rfl 123 _ _ rfl _ _ rfl rfl _ _ b2 (by exact size_mo) (by rfl) (by simp [Value.oneCell']) ?_))
    skip
    refine bodyPost_ret (results_ct rfl _ _ _ _ _ _ rfl HB2.out Try.underlying123 rfl (by exact size_mo)) rfl ?_
    exact ⟨by rw [← HR.out]; rfl, HB.out⟩
end Go.Proofs.Ytnjkpamjjdkmoaa
