/- Layer 22: an alarm is raised. -/
import Derived.Test.YtinaimacocgemaaFd2
namespace Go.Proofs.Ytinaimacocgemaa
open Go.RowKit Go.Own Bs
set_option linter.unusedVariables false
set_option linter.unusedSimpArgs false
/-- The level that acts on an alarm. -/
def rsL (inh : Nat) (L C : Nat → Nat) (l : Nat) (u : Int) : Option Nat := if rgt l u = true then act inh L C (5 - l) none else none
def bump (C : Nat → Nat) (l : Nat) : Nat → Nat := if C l < 255 then upd C l (C l + 1) else C
theorem act_lt (inh : Nat) (L C : Nat → Nat) : ∀ (n : Nat) (r : Option Nat), (∀ k, r = some k → k < 5) → ∀ k, act inh L C n r = some k → k < 5
  | 0, r, h, k, e => h k e
  | n + 1, r, h, k, e => by
    unfold act at e
    split at e
    · split at e
      · cases e; omega
      · exact act_lt inh L C n _ (fun j hj => by cases hj; omega) k e
    · exact act_lt inh L C n r h k e
theorem rgt_lt {l : Nat} {u : Int} (h : rgt l u = true) : l < 5 := by
  unfold rgt at h
  rw [Bool.and_eq_true] at h
  exact of_decide_eq_true h.1
set_option maxRecDepth 100000 in
set_option maxHeartbeats 4000000 in
theorem Raise_no (L C : Nat → Nat) (l : Nat) (u : Int) (ev inh : Nat) (w : World) (hl : l < 256) (hi : inh < 256) (hn : rsL inh L C l u = none) : Calls Try.prog 53 #[.agg #[.int .u8 ((L 0 : Nat) : Int), .int .u8 ((L 1 : Nat) : Int), .int .u8 ((L 2 : Nat) : Int), .int .u8 ((L 3 : Nat) : Int), .int .u8 ((L 4 : Nat) : Int), .int .u8 ((C 0 : Nat) : Int), .int .u8 ((C 1 : Nat) : Int), .int .u8 ((C 2 : Nat) : Int), .int .u8 ((C 3 : Nat) : Int), .int .u8 ((C 4 : Nat) : Int)], .agg #[.int .u8 ((l : Nat) : Int), .int .i64 u, .int .u8 ((ev : Nat) : Int)], .int .u8 (inh : Nat)] w fun e w' => e = .returned (.tuple #[.agg #[.int .u8 ((L 0 : Nat) : Int), .int .u8 ((L 1 : Nat) : Int), .int .u8 ((L 2 : Nat) : Int), .int .u8 ((L 3 : Nat) : Int), .int .u8 ((L 4 : Nat) : Int), .int .u8 ((C 0 : Nat) : Int), .int .u8 ((C 1 : Nat) : Int), .int .u8 ((C 2 : Nat) : Int), .int .u8 ((C 3 : Nat) : Int), .int .u8 ((C 4 : Nat) : Int)], .agg #[.int .u8 0, .int .i64 0, .int .u8 0], .bool false]) ∧ Below w.heap.size w w' := by
  obtain ⟨R, hR⟩ : ∃ R, act inh L C (5 - l) none = R := ⟨_, rfl⟩
  have hrs : (if rgt l u = true then R else none) = none := by rw [← hR]; exact hn
  have HR := Lib.hid hR
  have HN := Lib.hid hrs
  clear hR hrs hn
  have hz := zero_ld
  have hz2 := zero_al
  have HV := Lib.hid (Bxs.four w #[.int .u8 ((L 0 : Nat) : Int), .int .u8 ((L 1 : Nat) : Int), .int .u8 ((L 2 : Nat) : Int), .int .u8 ((L 3 : Nat) : Int), .int .u8 ((L 4 : Nat) : Int), .int .u8 ((C 0 : Nat) : Int), .int .u8 ((C 1 : Nat) : Int), .int .u8 ((C 2 : Nat) : Int), .int .u8 ((C 3 : Nat) : Int), .int .u8 ((C 4 : Nat) : Int)] #[.int .u8 ((l : Nat) : Int), .int .i64 u, .int .u8 ((ev : Nat) : Int)] #[.int .u8 0, .int .u8 0, .int .u8 0, .int .u8 0, .int .u8 0, .int .u8 0, .int .u8 0, .int .u8 0, .int .u8 0, .int .u8 0] #[.int .u8 0, .int .i64 0, .int .u8 0] 100 84 100 84)
  go_enter Try.func53, Try.ntmps53
  go_upto_region 1 with fail
  obtain ⟨w1, hw1⟩ : ∃ w1, w1 = (((w.alloc (.cells #[.int .u8 ((L 0 : Nat) : Int), .int .u8 ((L 1 : Nat) : Int), .int .u8 ((L 2 : Nat) : Int), .int .u8 ((L 3 : Nat) : Int), .int .u8 ((L 4 : Nat) : Int), .int .u8 ((C 0 : Nat) : Int), .int .u8 ((C 1 : Nat) : Int), .int .u8 ((C 2 : Nat) : Int), .int .u8 ((C 3 : Nat) : Int), .int .u8 ((C 4 : Nat) : Int)] 100)).alloc (.cells #[.int .u8 ((l : Nat) : Int), .int .i64 u, .int .u8 ((ev : Nat) : Int)] 84)).alloc (.cells #[.int .u8 0, .int .u8 0, .int .u8 0, .int .u8 0, .int .u8 0, .int .u8 0, .int .u8 0, .int .u8 0, .int .u8 0, .int .u8 0] 100)).alloc (.cells #[.int .u8 0, .int .i64 0, .int .u8 0] 84) := ⟨_, rfl⟩
  rw [← hw1] at HV ⊢
  clear hw1
  have b0 : w1.heap[w.heap.size]? = _ := HV.out.at_ 0 _ _ rfl
  have b1 : w1.heap[w.heap.size + 1]? = _ := HV.out.at_ 1 _ _ rfl
  have c1 := cell_of_row _ _ 0 _ _ _ b1
  go_wp2_with ((with_reducible show wpList _ _ _ (_ :: _) _ _); refine wpList_load_row rfl 100 _ rfl _ rfl _ _ _ _ b0 Try.underlying100 rfl (by exact size_ld) ?_; (try go_simp))
  refine (acting_any L C l inh _ hl hi).mono ?_
  rintro e w2 ⟨rfl, hb⟩
  have hV := HV.out.step hb
  have HV2 := Lib.hid hV
  clear hb HV b0 b1 c1 hV
  rw [HR.out]
  cases R with
  | none =>
    dsimp only [Option.getD, Option.isSome]
    go_upto_region 3 with fail
    have b0 : w2.heap[w.heap.size]? = _ := HV2.out.at_ 0 _ _ rfl
    have hv1 := HV2.out.put 2 rfl #[.int .u8 ((L 0 : Nat) : Int), .int .u8 ((L 1 : Nat) : Int), .int .u8 ((L 2 : Nat) : Int), .int .u8 ((L 3 : Nat) : Int), .int .u8 ((L 4 : Nat) : Int), .int .u8 ((C 0 : Nat) : Int), .int .u8 ((C 1 : Nat) : Int), .int .u8 ((C 2 : Nat) : Int), .int .u8 ((C 3 : Nat) : Int), .int .u8 ((C 4 : Nat) : Int)]
    have b2 : w2.heap[w.heap.size + 1 + 1]? = _ := HV2.out.at_ 2 _ _ rfl
    have b3 : (w2.setRow (w.heap.size + 1 + 1) #[.int .u8 ((L 0 : Nat) : Int), .int .u8 ((L 1 : Nat) : Int), .int .u8 ((L 2 : Nat) : Int), .int .u8 ((L 3 : Nat) : Int), .int .u8 ((L 4 : Nat) : Int), .int .u8 ((C 0 : Nat) : Int), .int .u8 ((C 1 : Nat) : Int), .int .u8 ((C 2 : Nat) : Int), .int .u8 ((C 3 : Nat) : Int), .int .u8 ((C 4 : Nat) : Int)]).heap[w.heap.size + 1 + 1 + 1]? = _ := hv1.at_ 3 _ _ rfl
    have hv := hv1.put 3 rfl #[.int .u8 0, .int .i64 0, .int .u8 0]
    have b4 : ((w2.setRow (w.heap.size + 1 + 1) #[.int .u8 ((L 0 : Nat) : Int), .int .u8 ((L 1 : Nat) : Int), .int .u8 ((L 2 : Nat) : Int), .int .u8 ((L 3 : Nat) : Int), .int .u8 ((L 4 : Nat) : Int), .int .u8 ((C 0 : Nat) : Int), .int .u8 ((C 1 : Nat) : Int), .int .u8 ((C 2 : Nat) : Int), .int .u8 ((C 3 : Nat) : Int), .int .u8 ((C 4 : Nat) : Int)]).setRow (w.heap.size + 1 + 1 + 1) #[.int .u8 0, .int .i64 0, .int .u8 0]).heap[w.heap.size + 1 + 1]? = _ := hv.at_ 2 _ _ rfl
    have b5 : ((w2.setRow (w.heap.size + 1 + 1) #[.int .u8 ((L 0 : Nat) : Int), .int .u8 ((L 1 : Nat) : Int), .int .u8 ((L 2 : Nat) : Int), .int .u8 ((L 3 : Nat) : Int), .int .u8 ((L 4 : Nat) : Int), .int .u8 ((C 0 : Nat) : Int), .int .u8 ((C 1 : Nat) : Int), .int .u8 ((C 2 : Nat) : Int), .int .u8 ((C 3 : Nat) : Int), .int .u8 ((C 4 : Nat) : Int)]).setRow (w.heap.size + 1 + 1 + 1) #[.int .u8 0, .int .i64 0, .int .u8 0]).heap[w.heap.size + 1 + 1 + 1]? = _ := hv.at_ 3 _ _ rfl
    have HB := Lib.hid hv.be
    have HB4 := Lib.hid b4
    have HB5 := Lib.hid b5
    clear hv1 hv b4 b5 HV2
    go_wp2_with (first | ((with_reducible show wpList _ _ _ (_ :: _) _ _); refine wpList_load_row rfl 100 _ rfl _ rfl _ _ _ _ b0 Try.underlying100 rfl (by exact size_ld) ?_; (try go_simp)) | ((with_reducible show wpList _ _ _ (_ :: _) _ _); refine wpList_store_row rfl 100 _ _ rfl _ _ rfl rfl _ _ b2 (by exact size_ld) (by rfl) (by simp [Value.oneCell']) ?_) | ((with_reducible show wpList _ _ _ (_ :: _) _ _); refine wpList_store_row rfl 84 _ _ rfl _ _ rfl rfl _ _ b3 (by exact size_al) (by rfl) (by simp [Value.oneCell']) ?_))
    refine bodyPost_ret (resCct rfl _ _ _ _ _ _ _ _ _ _ rfl rfl HB4.out HB5.out Try.underlying100 rfl (by exact size_ld) Try.underlying84 rfl (by exact size_al)) rfl ?_
    exact ⟨rfl, HB.out⟩
  | some k =>
    have hr : rgt l u = false := by
      have h := HN.out
      cases e : rgt l u
      · rfl
      · rw [if_pos e] at h; cases h
    have hRt := fun w => Right_any l u ev w hl
    rw [hr] at hRt
    have HRT := Lib.hid hRt
    clear hr hRt HN
    dsimp only [Option.getD, Option.isSome]
    have b1 : w2.heap[w.heap.size + 1]? = _ := HV2.out.at_ 1 _ _ rfl
    have d0 := cell_of_row _ _ 0 _ _ _ b1
    have d1 := cell_of_row _ _ 1 _ _ _ b1
    have d2 := cell_of_row _ _ 2 _ _ _ b1
    clear b1
    go_wp2_with fail
    go_at_call 48
    refine (HRT.out _).mono ?_
    rintro e w3 ⟨rfl, hb⟩
    have hV := HV2.out.step hb
    have HV3 := Lib.hid hV
    clear hb HV2 d0 d1 d2 hV
    obtain ⟨w2', hw2⟩ : ∃ w2, w2 = w3 := ⟨_, rfl⟩
    subst hw2
    have HV2 := HV3
    clear HV3
    go_upto_region 3 with fail
    obtain ⟨w2, hw2⟩ : ∃ w2, w2 = w2' := ⟨_, rfl⟩
    rw [← hw2] at HV2 ⊢
    clear hw2
    have b0 : w2.heap[w.heap.size]? = _ := HV2.out.at_ 0 _ _ rfl
    have hv1 := HV2.out.put 2 rfl #[.int .u8 ((L 0 : Nat) : Int), .int .u8 ((L 1 : Nat) : Int), .int .u8 ((L 2 : Nat) : Int), .int .u8 ((L 3 : Nat) : Int), .int .u8 ((L 4 : Nat) : Int), .int .u8 ((C 0 : Nat) : Int), .int .u8 ((C 1 : Nat) : Int), .int .u8 ((C 2 : Nat) : Int), .int .u8 ((C 3 : Nat) : Int), .int .u8 ((C 4 : Nat) : Int)]
    have b2 : w2.heap[w.heap.size + 1 + 1]? = _ := HV2.out.at_ 2 _ _ rfl
    have b3 : (w2.setRow (w.heap.size + 1 + 1) #[.int .u8 ((L 0 : Nat) : Int), .int .u8 ((L 1 : Nat) : Int), .int .u8 ((L 2 : Nat) : Int), .int .u8 ((L 3 : Nat) : Int), .int .u8 ((L 4 : Nat) : Int), .int .u8 ((C 0 : Nat) : Int), .int .u8 ((C 1 : Nat) : Int), .int .u8 ((C 2 : Nat) : Int), .int .u8 ((C 3 : Nat) : Int), .int .u8 ((C 4 : Nat) : Int)]).heap[w.heap.size + 1 + 1 + 1]? = _ := hv1.at_ 3 _ _ rfl
    have hv := hv1.put 3 rfl #[.int .u8 0, .int .i64 0, .int .u8 0]
    have b4 : ((w2.setRow (w.heap.size + 1 + 1) #[.int .u8 ((L 0 : Nat) : Int), .int .u8 ((L 1 : Nat) : Int), .int .u8 ((L 2 : Nat) : Int), .int .u8 ((L 3 : Nat) : Int), .int .u8 ((L 4 : Nat) : Int), .int .u8 ((C 0 : Nat) : Int), .int .u8 ((C 1 : Nat) : Int), .int .u8 ((C 2 : Nat) : Int), .int .u8 ((C 3 : Nat) : Int), .int .u8 ((C 4 : Nat) : Int)]).setRow (w.heap.size + 1 + 1 + 1) #[.int .u8 0, .int .i64 0, .int .u8 0]).heap[w.heap.size + 1 + 1]? = _ := hv.at_ 2 _ _ rfl
    have b5 : ((w2.setRow (w.heap.size + 1 + 1) #[.int .u8 ((L 0 : Nat) : Int), .int .u8 ((L 1 : Nat) : Int), .int .u8 ((L 2 : Nat) : Int), .int .u8 ((L 3 : Nat) : Int), .int .u8 ((L 4 : Nat) : Int), .int .u8 ((C 0 : Nat) : Int), .int .u8 ((C 1 : Nat) : Int), .int .u8 ((C 2 : Nat) : Int), .int .u8 ((C 3 : Nat) : Int), .int .u8 ((C 4 : Nat) : Int)]).setRow (w.heap.size + 1 + 1 + 1) #[.int .u8 0, .int .i64 0, .int .u8 0]).heap[w.heap.size + 1 + 1 + 1]? = _ := hv.at_ 3 _ _ rfl
    have HB := Lib.hid hv.be
    have HB4 := Lib.hid b4
    have HB5 := Lib.hid b5
    clear hv1 hv b4 b5 HV2
    go_wp2_with (first | ((with_reducible show wpList _ _ _ (_ :: _) _ _); refine wpList_load_row rfl 100 _ rfl _ rfl _ _ _ _ b0 Try.underlying100 rfl (by exact size_ld) ?_; (try go_simp)) | ((with_reducible show wpList _ _ _ (_ :: _) _ _); refine wpList_store_row rfl 100 _ _ rfl _ _ rfl rfl _ _ b2 (by exact size_ld) (by rfl) (by simp [Value.oneCell']) ?_) | ((with_reducible show wpList _ _ _ (_ :: _) _ _); refine wpList_store_row rfl 84 _ _ rfl _ _ rfl rfl _ _ b3 (by exact size_al) (by rfl) (by simp [Value.oneCell']) ?_))
    refine bodyPost_ret (resCct rfl _ _ _ _ _ _ _ _ _ _ rfl rfl HB4.out HB5.out Try.underlying100 rfl (by exact size_ld) Try.underlying84 rfl (by exact size_al)) rfl ?_
    exact ⟨rfl, HB.out⟩
set_option maxRecDepth 100000 in
set_option maxHeartbeats 4000000 in
theorem Raise_yes (L C : Nat → Nat) (l : Nat) (u : Int) (ev inh k : Nat) (w : World) (hl : l < 256) (hi : inh < 256) (hC : Lb C) (hn : rsL inh L C l u = some k) : Calls Try.prog 53 #[.agg #[.int .u8 ((L 0 : Nat) : Int), .int .u8 ((L 1 : Nat) : Int), .int .u8 ((L 2 : Nat) : Int), .int .u8 ((L 3 : Nat) : Int), .int .u8 ((L 4 : Nat) : Int), .int .u8 ((C 0 : Nat) : Int), .int .u8 ((C 1 : Nat) : Int), .int .u8 ((C 2 : Nat) : Int), .int .u8 ((C 3 : Nat) : Int), .int .u8 ((C 4 : Nat) : Int)], .agg #[.int .u8 ((l : Nat) : Int), .int .i64 u, .int .u8 ((ev : Nat) : Int)], .int .u8 (inh : Nat)] w fun e w' => e = .returned (.tuple #[.agg #[.int .u8 ((L 0 : Nat) : Int), .int .u8 ((L 1 : Nat) : Int), .int .u8 ((L 2 : Nat) : Int), .int .u8 ((L 3 : Nat) : Int), .int .u8 ((L 4 : Nat) : Int), .int .u8 ((bump C k 0 : Nat) : Int), .int .u8 ((bump C k 1 : Nat) : Int), .int .u8 ((bump C k 2 : Nat) : Int), .int .u8 ((bump C k 3 : Nat) : Int), .int .u8 ((bump C k 4 : Nat) : Int)], .agg #[.int .u8 ((k : Nat) : Int), .int .i64 u, .int .u8 ((ev : Nat) : Int)], .bool true]) ∧ Below w.heap.size w w' := by
  have hr : rgt l u = true := by
    cases e : rgt l u
    · unfold rsL at hn; rw [if_neg (by rw [e]; decide)] at hn; cases hn
    · rfl
  have hact : act inh L C (5 - l) none = some k := by unfold rsL at hn; rw [if_pos hr] at hn; exact hn
  have hk : k < 5 := act_lt inh L C (5 - l) none (fun j hj => by cases hj) k hact
  have hRt := fun w => Right_any l u ev w hl
  rw [hr] at hRt
  have HRT := Lib.hid hRt
  have HR := Lib.hid hact
  have hck := hC k hk
  clear hr hRt hact hn
  have hz := zero_ld
  have hz2 := zero_al
  have HV := Lib.hid (Bxs.four w #[.int .u8 ((L 0 : Nat) : Int), .int .u8 ((L 1 : Nat) : Int), .int .u8 ((L 2 : Nat) : Int), .int .u8 ((L 3 : Nat) : Int), .int .u8 ((L 4 : Nat) : Int), .int .u8 ((C 0 : Nat) : Int), .int .u8 ((C 1 : Nat) : Int), .int .u8 ((C 2 : Nat) : Int), .int .u8 ((C 3 : Nat) : Int), .int .u8 ((C 4 : Nat) : Int)] #[.int .u8 ((l : Nat) : Int), .int .i64 u, .int .u8 ((ev : Nat) : Int)] #[.int .u8 0, .int .u8 0, .int .u8 0, .int .u8 0, .int .u8 0, .int .u8 0, .int .u8 0, .int .u8 0, .int .u8 0, .int .u8 0] #[.int .u8 0, .int .i64 0, .int .u8 0] 100 84 100 84)
  go_enter Try.func53, Try.ntmps53
  go_upto_region 1 with fail
  obtain ⟨w1, hw1⟩ : ∃ w1, w1 = (((w.alloc (.cells #[.int .u8 ((L 0 : Nat) : Int), .int .u8 ((L 1 : Nat) : Int), .int .u8 ((L 2 : Nat) : Int), .int .u8 ((L 3 : Nat) : Int), .int .u8 ((L 4 : Nat) : Int), .int .u8 ((C 0 : Nat) : Int), .int .u8 ((C 1 : Nat) : Int), .int .u8 ((C 2 : Nat) : Int), .int .u8 ((C 3 : Nat) : Int), .int .u8 ((C 4 : Nat) : Int)] 100)).alloc (.cells #[.int .u8 ((l : Nat) : Int), .int .i64 u, .int .u8 ((ev : Nat) : Int)] 84)).alloc (.cells #[.int .u8 0, .int .u8 0, .int .u8 0, .int .u8 0, .int .u8 0, .int .u8 0, .int .u8 0, .int .u8 0, .int .u8 0, .int .u8 0] 100)).alloc (.cells #[.int .u8 0, .int .i64 0, .int .u8 0] 84) := ⟨_, rfl⟩
  rw [← hw1] at HV ⊢
  clear hw1
  have b0 : w1.heap[w.heap.size]? = _ := HV.out.at_ 0 _ _ rfl
  have b1 : w1.heap[w.heap.size + 1]? = _ := HV.out.at_ 1 _ _ rfl
  have c1 := cell_of_row _ _ 0 _ _ _ b1
  go_wp2_with ((with_reducible show wpList _ _ _ (_ :: _) _ _); refine wpList_load_row rfl 100 _ rfl _ rfl _ _ _ _ b0 Try.underlying100 rfl (by exact size_ld) ?_; (try go_simp))
  refine (acting_any L C l inh _ hl hi).mono ?_
  rintro e w2 ⟨rfl, hb⟩
  have hV := HV.out.step hb
  have HV2 := Lib.hid hV
  clear hb HV b0 b1 c1 hV
  rw [HR.out]
  dsimp only [Option.getD, Option.isSome]
  have b1 : w2.heap[w.heap.size + 1]? = _ := HV2.out.at_ 1 _ _ rfl
  have d0 := cell_of_row _ _ 0 _ _ _ b1
  have d1 := cell_of_row _ _ 1 _ _ _ b1
  have d2 := cell_of_row _ _ 2 _ _ _ b1
  clear b1
  go_wp2_with fail
  go_at_call 48
  refine (HRT.out _).mono ?_
  rintro e w3 ⟨rfl, hb⟩
  have hV := HV2.out.step hb
  have HV3 := Lib.hid hV
  clear hb HV2 d0 d1 d2 hV
  go_upto_region 4 with fail
  have b0 : w3.heap[w.heap.size]? = _ := HV3.out.at_ 0 _ _ rfl
  have c0 := cell_of_row _ _ (5 + k) _ _ _ b0
  rw [ld_cnt L C hk] at c0
  have f0 := frozen_of_row _ _ (5 + k) _ _ b0
  have b1 : w3.heap[w.heap.size + 1]? = _ := HV3.out.at_ 1 _ _ rfl
  have c1 := cell_of_row _ _ 0 _ _ _ b1
  have f1 := frozen_of_row _ _ 0 _ _ b1
  clear b0 b1
  by_cases h255 : C k < 255
  · have hbu : bump C k = upd C k (C k + 1) := if_pos h255
    have HBU := Lib.hid hbu
    have hv := (HV3.out.set 0 rfl (5 + k) (.int .u8 ((C k + 1 : Nat) : Int))).set 1 rfl 0 (.int .u8 ((k : Nat) : Int))
    rw [set_cnt L C hk] at hv
    have HV4 := Lib.hid hv
    clear hbu hv
    go_upto_region 7 with fail
    have hV : Bxs w ((w3.setCell ⟨w.heap.size, 5 + k, none⟩ (.int .u8 ((C k : Int) + 1))).setCell ⟨w.heap.size + 1, 0, none⟩ (.int .u8 (k : Nat))) [(#[.int .u8 ((L 0 : Nat) : Int), .int .u8 ((L 1 : Nat) : Int), .int .u8 ((L 2 : Nat) : Int), .int .u8 ((L 3 : Nat) : Int), .int .u8 ((L 4 : Nat) : Int), .int .u8 ((upd C k (C k + 1) 0 : Nat) : Int), .int .u8 ((upd C k (C k + 1) 1 : Nat) : Int), .int .u8 ((upd C k (C k + 1) 2 : Nat) : Int), .int .u8 ((upd C k (C k + 1) 3 : Nat) : Int), .int .u8 ((upd C k (C k + 1) 4 : Nat) : Int)], 100), (#[.int .u8 ((k : Nat) : Int), .int .i64 u, .int .u8 ((ev : Nat) : Int)], 84), (#[.int .u8 0, .int .u8 0, .int .u8 0, .int .u8 0, .int .u8 0, .int .u8 0, .int .u8 0, .int .u8 0, .int .u8 0, .int .u8 0], 100), (#[.int .u8 0, .int .i64 0, .int .u8 0], 84)] := HV4.out
    obtain ⟨w4, hw4⟩ : ∃ w4, w4 = (w3.setCell ⟨w.heap.size, 5 + k, none⟩ (.int .u8 ((C k : Int) + 1))).setCell ⟨w.heap.size + 1, 0, none⟩ (.int .u8 (k : Nat)) := ⟨_, rfl⟩
    rw [← hw4] at hV ⊢
    clear hw4 HV4 HV3 c0 f0 c1 f1
    have HV4 := Lib.hid hV
    clear hV
    have b0 : w4.heap[w.heap.size]? = _ := HV4.out.at_ 0 _ _ rfl
    have b1 : w4.heap[w.heap.size + 1]? = _ := HV4.out.at_ 1 _ _ rfl
    have b2 : w4.drew.heap[w.heap.size + 1 + 1]? = _ := HV4.out.at_ 2 _ _ rfl
    have hV : Bxs w w4.drew _ := HV4.out.step (bel_drewV w4 1)
    have hv1 := hV.put 2 rfl #[.int .u8 ((L 0 : Nat) : Int), .int .u8 ((L 1 : Nat) : Int), .int .u8 ((L 2 : Nat) : Int), .int .u8 ((L 3 : Nat) : Int), .int .u8 ((L 4 : Nat) : Int), .int .u8 ((upd C k (C k + 1) 0 : Nat) : Int), .int .u8 ((upd C k (C k + 1) 1 : Nat) : Int), .int .u8 ((upd C k (C k + 1) 2 : Nat) : Int), .int .u8 ((upd C k (C k + 1) 3 : Nat) : Int), .int .u8 ((upd C k (C k + 1) 4 : Nat) : Int)]
    have b3 : (w4.drew.setRow (w.heap.size + 1 + 1) #[.int .u8 ((L 0 : Nat) : Int), .int .u8 ((L 1 : Nat) : Int), .int .u8 ((L 2 : Nat) : Int), .int .u8 ((L 3 : Nat) : Int), .int .u8 ((L 4 : Nat) : Int), .int .u8 ((upd C k (C k + 1) 0 : Nat) : Int), .int .u8 ((upd C k (C k + 1) 1 : Nat) : Int), .int .u8 ((upd C k (C k + 1) 2 : Nat) : Int), .int .u8 ((upd C k (C k + 1) 3 : Nat) : Int), .int .u8 ((upd C k (C k + 1) 4 : Nat) : Int)]).heap[w.heap.size + 1 + 1 + 1]? = _ := hv1.at_ 3 _ _ rfl
    have hv := hv1.put 3 rfl #[.int .u8 ((k : Nat) : Int), .int .i64 u, .int .u8 ((ev : Nat) : Int)]
    have b4 : ((w4.drew.setRow (w.heap.size + 1 + 1) #[.int .u8 ((L 0 : Nat) : Int), .int .u8 ((L 1 : Nat) : Int), .int .u8 ((L 2 : Nat) : Int), .int .u8 ((L 3 : Nat) : Int), .int .u8 ((L 4 : Nat) : Int), .int .u8 ((upd C k (C k + 1) 0 : Nat) : Int), .int .u8 ((upd C k (C k + 1) 1 : Nat) : Int), .int .u8 ((upd C k (C k + 1) 2 : Nat) : Int), .int .u8 ((upd C k (C k + 1) 3 : Nat) : Int), .int .u8 ((upd C k (C k + 1) 4 : Nat) : Int)]).setRow (w.heap.size + 1 + 1 + 1) #[.int .u8 ((k : Nat) : Int), .int .i64 u, .int .u8 ((ev : Nat) : Int)]).heap[w.heap.size + 1 + 1]? = _ := hv.at_ 2 _ _ rfl
    have b5 : ((w4.drew.setRow (w.heap.size + 1 + 1) #[.int .u8 ((L 0 : Nat) : Int), .int .u8 ((L 1 : Nat) : Int), .int .u8 ((L 2 : Nat) : Int), .int .u8 ((L 3 : Nat) : Int), .int .u8 ((L 4 : Nat) : Int), .int .u8 ((upd C k (C k + 1) 0 : Nat) : Int), .int .u8 ((upd C k (C k + 1) 1 : Nat) : Int), .int .u8 ((upd C k (C k + 1) 2 : Nat) : Int), .int .u8 ((upd C k (C k + 1) 3 : Nat) : Int), .int .u8 ((upd C k (C k + 1) 4 : Nat) : Int)]).setRow (w.heap.size + 1 + 1 + 1) #[.int .u8 ((k : Nat) : Int), .int .i64 u, .int .u8 ((ev : Nat) : Int)]).heap[w.heap.size + 1 + 1 + 1]? = _ := hv.at_ 3 _ _ rfl
    have HB := Lib.hid hv.be
    have HB4 := Lib.hid b4
    have HB5 := Lib.hid b5
    have m1 : (w4.drew.setRow (w.heap.size + 1 + 1) #[.int .u8 ((L 0 : Nat) : Int), .int .u8 ((L 1 : Nat) : Int), .int .u8 ((L 2 : Nat) : Int), .int .u8 ((L 3 : Nat) : Int), .int .u8 ((L 4 : Nat) : Int), .int .u8 ((upd C k (C k + 1) 0 : Nat) : Int), .int .u8 ((upd C k (C k + 1) 1 : Nat) : Int), .int .u8 ((upd C k (C k + 1) 2 : Nat) : Int), .int .u8 ((upd C k (C k + 1) 3 : Nat) : Int), .int .u8 ((upd C k (C k + 1) 4 : Nat) : Int)]).heap[w.heap.size]? = _ := hv1.at_ 0 _ _ rfl
    have m2 : (w4.drew.setRow (w.heap.size + 1 + 1) #[.int .u8 ((L 0 : Nat) : Int), .int .u8 ((L 1 : Nat) : Int), .int .u8 ((L 2 : Nat) : Int), .int .u8 ((L 3 : Nat) : Int), .int .u8 ((L 4 : Nat) : Int), .int .u8 ((upd C k (C k + 1) 0 : Nat) : Int), .int .u8 ((upd C k (C k + 1) 1 : Nat) : Int), .int .u8 ((upd C k (C k + 1) 2 : Nat) : Int), .int .u8 ((upd C k (C k + 1) 3 : Nat) : Int), .int .u8 ((upd C k (C k + 1) 4 : Nat) : Int)]).heap[w.heap.size + 1]? = _ := hv1.at_ 1 _ _ rfl
    have m3 : ((w4.drew.setRow (w.heap.size + 1 + 1) #[.int .u8 ((L 0 : Nat) : Int), .int .u8 ((L 1 : Nat) : Int), .int .u8 ((L 2 : Nat) : Int), .int .u8 ((L 3 : Nat) : Int), .int .u8 ((L 4 : Nat) : Int), .int .u8 ((upd C k (C k + 1) 0 : Nat) : Int), .int .u8 ((upd C k (C k + 1) 1 : Nat) : Int), .int .u8 ((upd C k (C k + 1) 2 : Nat) : Int), .int .u8 ((upd C k (C k + 1) 3 : Nat) : Int), .int .u8 ((upd C k (C k + 1) 4 : Nat) : Int)]).setRow (w.heap.size + 1 + 1 + 1) #[.int .u8 ((k : Nat) : Int), .int .i64 u, .int .u8 ((ev : Nat) : Int)]).heap[w.heap.size]? = _ := hv.at_ 0 _ _ rfl
    have m4 : ((w4.drew.setRow (w.heap.size + 1 + 1) #[.int .u8 ((L 0 : Nat) : Int), .int .u8 ((L 1 : Nat) : Int), .int .u8 ((L 2 : Nat) : Int), .int .u8 ((L 3 : Nat) : Int), .int .u8 ((L 4 : Nat) : Int), .int .u8 ((upd C k (C k + 1) 0 : Nat) : Int), .int .u8 ((upd C k (C k + 1) 1 : Nat) : Int), .int .u8 ((upd C k (C k + 1) 2 : Nat) : Int), .int .u8 ((upd C k (C k + 1) 3 : Nat) : Int), .int .u8 ((upd C k (C k + 1) 4 : Nat) : Int)]).setRow (w.heap.size + 1 + 1 + 1) #[.int .u8 ((k : Nat) : Int), .int .i64 u, .int .u8 ((ev : Nat) : Int)]).heap[w.heap.size + 1]? = _ := hv.at_ 1 _ _ rfl
    clear HV4 hV hv1 hv b4 b5
    obtain ⟨I, W, hne, hWI, hIW⟩ := Go.Mix.family (fun v => v.heap[w.heap.size]? = some (.cells #[.int .u8 ((L 0 : Nat) : Int), .int .u8 ((L 1 : Nat) : Int), .int .u8 ((L 2 : Nat) : Int), .int .u8 ((L 3 : Nat) : Int), .int .u8 ((L 4 : Nat) : Int), .int .u8 ((upd C k (C k + 1) 0 : Nat) : Int), .int .u8 ((upd C k (C k + 1) 1 : Nat) : Int), .int .u8 ((upd C k (C k + 1) 2 : Nat) : Int), .int .u8 ((upd C k (C k + 1) 3 : Nat) : Int), .int .u8 ((upd C k (C k + 1) 4 : Nat) : Int)] 100 (0, 0)) ∧ v.heap[w.heap.size + 1]? = some (.cells #[.int .u8 ((k : Nat) : Int), .int .i64 u, .int .u8 ((ev : Nat) : Int)] 84 (0, 0))) ⟨b0, b1⟩
    have HJ := Lib.hid hIW
    have HW := Lib.hid hWI
    clear hWI hIW
    refine Go.Mix.wp_region (fun w' => ∃ i, w' = W i) (by kernel_rfl) (by kernel_rfl) (HJ.out _ ⟨b0, b1⟩) ?_
    simp only []
    (refine Go.Mix.walk_calm rfl ?_ (fun K hK => ?_); (first | exact Go.Mix.wanted_none rfl | exact Go.Mix.wanted_tt rfl rfl rfl | exact Go.Mix.wanted_ff rfl rfl rfl); refine Go.Flo.quiet_load_row 100 _ rfl _ rfl _ #[.int .u8 ((L 0 : Nat) : Int), .int .u8 ((L 1 : Nat) : Int), .int .u8 ((L 2 : Nat) : Int), .int .u8 ((L 3 : Nat) : Int), .int .u8 ((L 4 : Nat) : Int), .int .u8 ((upd C k (C k + 1) 0 : Nat) : Int), .int .u8 ((upd C k (C k + 1) 1 : Nat) : Int), .int .u8 ((upd C k (C k + 1) 2 : Nat) : Int), .int .u8 ((upd C k (C k + 1) 3 : Nat) : Int), .int .u8 ((upd C k (C k + 1) 4 : Nat) : Int)] _ (by rintro _ ⟨i, rfl⟩; exact (HW.out i).1) Try.underlying100 rfl size_ld ?_; go_simp; refine hK _ ?_; clear hK K)
    (refine Go.Mix.walk_calm rfl ?_ (fun K hK => ?_); (first | exact Go.Mix.wanted_none rfl | exact Go.Mix.wanted_tt rfl rfl rfl | exact Go.Mix.wanted_ff rfl rfl rfl); refine Go.Flo.quiet_load_row 84 _ rfl _ rfl _ #[.int .u8 ((k : Nat) : Int), .int .i64 u, .int .u8 ((ev : Nat) : Int)] _ (by rintro _ ⟨i, rfl⟩; exact (HW.out i).2) Try.underlying84 rfl size_al ?_; go_simp; refine hK _ ?_; clear hK K)
    (refine Go.Mix.walk_loud rfl ?_ (fun K hK => ?_); (first | exact Go.Mix.wanted_none rfl | exact Go.Mix.wanted_tt rfl rfl rfl | exact Go.Mix.wanted_ff rfl rfl rfl); refine wp_store_row 100 _ _ rfl _ #[.int .u8 ((L 0 : Nat) : Int), .int .u8 ((L 1 : Nat) : Int), .int .u8 ((L 2 : Nat) : Int), .int .u8 ((L 3 : Nat) : Int), .int .u8 ((L 4 : Nat) : Int), .int .u8 ((upd C k (C k + 1) 0 : Nat) : Int), .int .u8 ((upd C k (C k + 1) 1 : Nat) : Int), .int .u8 ((upd C k (C k + 1) 2 : Nat) : Int), .int .u8 ((upd C k (C k + 1) 3 : Nat) : Int), .int .u8 ((upd C k (C k + 1) 4 : Nat) : Int)] rfl rfl 100 _ b2 size_ld rfl (by simp [Value.oneCell']) (hK _ _ (HJ.out _ ⟨m1, m2⟩) ?_); clear hK K)
    (refine Go.Mix.walk_loud rfl ?_ (fun K hK => ?_); (first | exact Go.Mix.wanted_none rfl | exact Go.Mix.wanted_tt rfl rfl rfl | exact Go.Mix.wanted_ff rfl rfl rfl); refine wp_store_row 84 _ _ rfl _ #[.int .u8 ((k : Nat) : Int), .int .i64 u, .int .u8 ((ev : Nat) : Int)] rfl rfl 84 _ b3 size_al rfl (by simp [Value.oneCell']) (hK _ _ (HJ.out _ ⟨m3, m4⟩) ?_); clear hK K)
    (repeat (first | (refine Go.Mix.walk_calm rfl ?_ (fun K hK => ?_); (first | exact Go.Mix.wanted_none rfl | exact Go.Mix.wanted_tt rfl rfl rfl | exact Go.Mix.wanted_ff rfl rfl rfl); go_big_quiet_op; refine hK _ ?_; clear hK K) | (refine Go.Mix.walk_skip ?_ (fun K hK => ?_); (first | exact Go.Mix.wanted_tf rfl rfl rfl | exact Go.Mix.wanted_ft rfl rfl rfl); go_simp; refine hK _ ?_; clear hK K) | (refine Go.Mix.walk_loud rfl ?_ (fun K hK => ?_); (first | exact Go.Mix.wanted_none rfl | exact Go.Mix.wanted_tt rfl rfl rfl | exact Go.Mix.wanted_ff rfl rfl rfl); (first | go_big_op | go_simp); (first | (refine hK _ _ trivial ?_; clear hK K) | (fail; (try dsimp only); refine hK _ _ trivial ?_; clear hK K))) | (refine Go.Mix.walk_step (fun K hK => ?_); go_simp; (try (go_ints; try go_simp)); refine hK _ _ ?_; clear hK K)))
    refine Go.Mix.walk_nil ?_
    go_wp2_with fail
    refine bodyPost_ret (resCct rfl _ _ _ _ _ _ _ _ _ _ rfl rfl HB4.out HB5.out Try.underlying100 rfl (by exact size_ld) Try.underlying84 rfl (by exact size_al)) rfl ?_
    exact ⟨by rw [HBU.out]; rfl, HB.out⟩
  · have hbu : bump C k = C := if_neg h255
    have HBU := Lib.hid hbu
    have hv := HV3.out.set 1 rfl 0 (.int .u8 ((k : Nat) : Int))
    have HV4 := Lib.hid hv
    clear hbu hv
    go_upto_region 7 with fail
    have hV : Bxs w (w3.setCell ⟨w.heap.size + 1, 0, none⟩ (.int .u8 (k : Nat))) [(#[.int .u8 ((L 0 : Nat) : Int), .int .u8 ((L 1 : Nat) : Int), .int .u8 ((L 2 : Nat) : Int), .int .u8 ((L 3 : Nat) : Int), .int .u8 ((L 4 : Nat) : Int), .int .u8 ((C 0 : Nat) : Int), .int .u8 ((C 1 : Nat) : Int), .int .u8 ((C 2 : Nat) : Int), .int .u8 ((C 3 : Nat) : Int), .int .u8 ((C 4 : Nat) : Int)], 100), (#[.int .u8 ((k : Nat) : Int), .int .i64 u, .int .u8 ((ev : Nat) : Int)], 84), (#[.int .u8 0, .int .u8 0, .int .u8 0, .int .u8 0, .int .u8 0, .int .u8 0, .int .u8 0, .int .u8 0, .int .u8 0, .int .u8 0], 100), (#[.int .u8 0, .int .i64 0, .int .u8 0], 84)] := HV4.out
    obtain ⟨w4, hw4⟩ : ∃ w4, w4 = w3.setCell ⟨w.heap.size + 1, 0, none⟩ (.int .u8 (k : Nat)) := ⟨_, rfl⟩
    rw [← hw4] at hV ⊢
    clear hw4 HV4 HV3 c0 f0 c1 f1
    have HV4 := Lib.hid hV
    clear hV
    have b0 : w4.heap[w.heap.size]? = _ := HV4.out.at_ 0 _ _ rfl
    have b1 : w4.heap[w.heap.size + 1]? = _ := HV4.out.at_ 1 _ _ rfl
    have b2 : w4.drew.heap[w.heap.size + 1 + 1]? = _ := HV4.out.at_ 2 _ _ rfl
    have hV : Bxs w w4.drew _ := HV4.out.step (bel_drewV w4 1)
    have hv1 := hV.put 2 rfl #[.int .u8 ((L 0 : Nat) : Int), .int .u8 ((L 1 : Nat) : Int), .int .u8 ((L 2 : Nat) : Int), .int .u8 ((L 3 : Nat) : Int), .int .u8 ((L 4 : Nat) : Int), .int .u8 ((C 0 : Nat) : Int), .int .u8 ((C 1 : Nat) : Int), .int .u8 ((C 2 : Nat) : Int), .int .u8 ((C 3 : Nat) : Int), .int .u8 ((C 4 : Nat) : Int)]
    have b3 : (w4.drew.setRow (w.heap.size + 1 + 1) #[.int .u8 ((L 0 : Nat) : Int), .int .u8 ((L 1 : Nat) : Int), .int .u8 ((L 2 : Nat) : Int), .int .u8 ((L 3 : Nat) : Int), .int .u8 ((L 4 : Nat) : Int), .int .u8 ((C 0 : Nat) : Int), .int .u8 ((C 1 : Nat) : Int), .int .u8 ((C 2 : Nat) : Int), .int .u8 ((C 3 : Nat) : Int), .int .u8 ((C 4 : Nat) : Int)]).heap[w.heap.size + 1 + 1 + 1]? = _ := hv1.at_ 3 _ _ rfl
    have hv := hv1.put 3 rfl #[.int .u8 ((k : Nat) : Int), .int .i64 u, .int .u8 ((ev : Nat) : Int)]
    have b4 : ((w4.drew.setRow (w.heap.size + 1 + 1) #[.int .u8 ((L 0 : Nat) : Int), .int .u8 ((L 1 : Nat) : Int), .int .u8 ((L 2 : Nat) : Int), .int .u8 ((L 3 : Nat) : Int), .int .u8 ((L 4 : Nat) : Int), .int .u8 ((C 0 : Nat) : Int), .int .u8 ((C 1 : Nat) : Int), .int .u8 ((C 2 : Nat) : Int), .int .u8 ((C 3 : Nat) : Int), .int .u8 ((C 4 : Nat) : Int)]).setRow (w.heap.size + 1 + 1 + 1) #[.int .u8 ((k : Nat) : Int), .int .i64 u, .int .u8 ((ev : Nat) : Int)]).heap[w.heap.size + 1 + 1]? = _ := hv.at_ 2 _ _ rfl
    have b5 : ((w4.drew.setRow (w.heap.size + 1 + 1) #[.int .u8 ((L 0 : Nat) : Int), .int .u8 ((L 1 : Nat) : Int), .int .u8 ((L 2 : Nat) : Int), .int .u8 ((L 3 : Nat) : Int), .int .u8 ((L 4 : Nat) : Int), .int .u8 ((C 0 : Nat) : Int), .int .u8 ((C 1 : Nat) : Int), .int .u8 ((C 2 : Nat) : Int), .int .u8 ((C 3 : Nat) : Int), .int .u8 ((C 4 : Nat) : Int)]).setRow (w.heap.size + 1 + 1 + 1) #[.int .u8 ((k : Nat) : Int), .int .i64 u, .int .u8 ((ev : Nat) : Int)]).heap[w.heap.size + 1 + 1 + 1]? = _ := hv.at_ 3 _ _ rfl
    have HB := Lib.hid hv.be
    have HB4 := Lib.hid b4
    have HB5 := Lib.hid b5
    have m1 : (w4.drew.setRow (w.heap.size + 1 + 1) #[.int .u8 ((L 0 : Nat) : Int), .int .u8 ((L 1 : Nat) : Int), .int .u8 ((L 2 : Nat) : Int), .int .u8 ((L 3 : Nat) : Int), .int .u8 ((L 4 : Nat) : Int), .int .u8 ((C 0 : Nat) : Int), .int .u8 ((C 1 : Nat) : Int), .int .u8 ((C 2 : Nat) : Int), .int .u8 ((C 3 : Nat) : Int), .int .u8 ((C 4 : Nat) : Int)]).heap[w.heap.size]? = _ := hv1.at_ 0 _ _ rfl
    have m2 : (w4.drew.setRow (w.heap.size + 1 + 1) #[.int .u8 ((L 0 : Nat) : Int), .int .u8 ((L 1 : Nat) : Int), .int .u8 ((L 2 : Nat) : Int), .int .u8 ((L 3 : Nat) : Int), .int .u8 ((L 4 : Nat) : Int), .int .u8 ((C 0 : Nat) : Int), .int .u8 ((C 1 : Nat) : Int), .int .u8 ((C 2 : Nat) : Int), .int .u8 ((C 3 : Nat) : Int), .int .u8 ((C 4 : Nat) : Int)]).heap[w.heap.size + 1]? = _ := hv1.at_ 1 _ _ rfl
    have m3 : ((w4.drew.setRow (w.heap.size + 1 + 1) #[.int .u8 ((L 0 : Nat) : Int), .int .u8 ((L 1 : Nat) : Int), .int .u8 ((L 2 : Nat) : Int), .int .u8 ((L 3 : Nat) : Int), .int .u8 ((L 4 : Nat) : Int), .int .u8 ((C 0 : Nat) : Int), .int .u8 ((C 1 : Nat) : Int), .int .u8 ((C 2 : Nat) : Int), .int .u8 ((C 3 : Nat) : Int), .int .u8 ((C 4 : Nat) : Int)]).setRow (w.heap.size + 1 + 1 + 1) #[.int .u8 ((k : Nat) : Int), .int .i64 u, .int .u8 ((ev : Nat) : Int)]).heap[w.heap.size]? = _ := hv.at_ 0 _ _ rfl
    have m4 : ((w4.drew.setRow (w.heap.size + 1 + 1) #[.int .u8 ((L 0 : Nat) : Int), .int .u8 ((L 1 : Nat) : Int), .int .u8 ((L 2 : Nat) : Int), .int .u8 ((L 3 : Nat) : Int), .int .u8 ((L 4 : Nat) : Int), .int .u8 ((C 0 : Nat) : Int), .int .u8 ((C 1 : Nat) : Int), .int .u8 ((C 2 : Nat) : Int), .int .u8 ((C 3 : Nat) : Int), .int .u8 ((C 4 : Nat) : Int)]).setRow (w.heap.size + 1 + 1 + 1) #[.int .u8 ((k : Nat) : Int), .int .i64 u, .int .u8 ((ev : Nat) : Int)]).heap[w.heap.size + 1]? = _ := hv.at_ 1 _ _ rfl
    clear HV4 hV hv1 hv b4 b5
    obtain ⟨I, W, hne, hWI, hIW⟩ := Go.Mix.family (fun v => v.heap[w.heap.size]? = some (.cells #[.int .u8 ((L 0 : Nat) : Int), .int .u8 ((L 1 : Nat) : Int), .int .u8 ((L 2 : Nat) : Int), .int .u8 ((L 3 : Nat) : Int), .int .u8 ((L 4 : Nat) : Int), .int .u8 ((C 0 : Nat) : Int), .int .u8 ((C 1 : Nat) : Int), .int .u8 ((C 2 : Nat) : Int), .int .u8 ((C 3 : Nat) : Int), .int .u8 ((C 4 : Nat) : Int)] 100 (0, 0)) ∧ v.heap[w.heap.size + 1]? = some (.cells #[.int .u8 ((k : Nat) : Int), .int .i64 u, .int .u8 ((ev : Nat) : Int)] 84 (0, 0))) ⟨b0, b1⟩
    have HJ := Lib.hid hIW
    have HW := Lib.hid hWI
    clear hWI hIW
    refine Go.Mix.wp_region (fun w' => ∃ i, w' = W i) (by kernel_rfl) (by kernel_rfl) (HJ.out _ ⟨b0, b1⟩) ?_
    simp only []
    (refine Go.Mix.walk_calm rfl ?_ (fun K hK => ?_); (first | exact Go.Mix.wanted_none rfl | exact Go.Mix.wanted_tt rfl rfl rfl | exact Go.Mix.wanted_ff rfl rfl rfl); refine Go.Flo.quiet_load_row 100 _ rfl _ rfl _ #[.int .u8 ((L 0 : Nat) : Int), .int .u8 ((L 1 : Nat) : Int), .int .u8 ((L 2 : Nat) : Int), .int .u8 ((L 3 : Nat) : Int), .int .u8 ((L 4 : Nat) : Int), .int .u8 ((C 0 : Nat) : Int), .int .u8 ((C 1 : Nat) : Int), .int .u8 ((C 2 : Nat) : Int), .int .u8 ((C 3 : Nat) : Int), .int .u8 ((C 4 : Nat) : Int)] _ (by rintro _ ⟨i, rfl⟩; exact (HW.out i).1) Try.underlying100 rfl size_ld ?_; go_simp; refine hK _ ?_; clear hK K)
    (refine Go.Mix.walk_calm rfl ?_ (fun K hK => ?_); (first | exact Go.Mix.wanted_none rfl | exact Go.Mix.wanted_tt rfl rfl rfl | exact Go.Mix.wanted_ff rfl rfl rfl); refine Go.Flo.quiet_load_row 84 _ rfl _ rfl _ #[.int .u8 ((k : Nat) : Int), .int .i64 u, .int .u8 ((ev : Nat) : Int)] _ (by rintro _ ⟨i, rfl⟩; exact (HW.out i).2) Try.underlying84 rfl size_al ?_; go_simp; refine hK _ ?_; clear hK K)
    (refine Go.Mix.walk_loud rfl ?_ (fun K hK => ?_); (first | exact Go.Mix.wanted_none rfl | exact Go.Mix.wanted_tt rfl rfl rfl | exact Go.Mix.wanted_ff rfl rfl rfl); refine wp_store_row 100 _ _ rfl _ #[.int .u8 ((L 0 : Nat) : Int), .int .u8 ((L 1 : Nat) : Int), .int .u8 ((L 2 : Nat) : Int), .int .u8 ((L 3 : Nat) : Int), .int .u8 ((L 4 : Nat) : Int), .int .u8 ((C 0 : Nat) : Int), .int .u8 ((C 1 : Nat) : Int), .int .u8 ((C 2 : Nat) : Int), .int .u8 ((C 3 : Nat) : Int), .int .u8 ((C 4 : Nat) : Int)] rfl rfl 100 _ b2 size_ld rfl (by simp [Value.oneCell']) (hK _ _ (HJ.out _ ⟨m1, m2⟩) ?_); clear hK K)
    (refine Go.Mix.walk_loud rfl ?_ (fun K hK => ?_); (first | exact Go.Mix.wanted_none rfl | exact Go.Mix.wanted_tt rfl rfl rfl | exact Go.Mix.wanted_ff rfl rfl rfl); refine wp_store_row 84 _ _ rfl _ #[.int .u8 ((k : Nat) : Int), .int .i64 u, .int .u8 ((ev : Nat) : Int)] rfl rfl 84 _ b3 size_al rfl (by simp [Value.oneCell']) (hK _ _ (HJ.out _ ⟨m3, m4⟩) ?_); clear hK K)
    (repeat (first | (refine Go.Mix.walk_calm rfl ?_ (fun K hK => ?_); (first | exact Go.Mix.wanted_none rfl | exact Go.Mix.wanted_tt rfl rfl rfl | exact Go.Mix.wanted_ff rfl rfl rfl); go_big_quiet_op; refine hK _ ?_; clear hK K) | (refine Go.Mix.walk_skip ?_ (fun K hK => ?_); (first | exact Go.Mix.wanted_tf rfl rfl rfl | exact Go.Mix.wanted_ft rfl rfl rfl); go_simp; refine hK _ ?_; clear hK K) | (refine Go.Mix.walk_loud rfl ?_ (fun K hK => ?_); (first | exact Go.Mix.wanted_none rfl | exact Go.Mix.wanted_tt rfl rfl rfl | exact Go.Mix.wanted_ff rfl rfl rfl); (first | go_big_op | go_simp); (first | (refine hK _ _ trivial ?_; clear hK K) | (fail; (try dsimp only); refine hK _ _ trivial ?_; clear hK K))) | (refine Go.Mix.walk_step (fun K hK => ?_); go_simp; (try (go_ints; try go_simp)); refine hK _ _ ?_; clear hK K)))
    refine Go.Mix.walk_nil ?_
    go_wp2_with fail
    refine bodyPost_ret (resCct rfl _ _ _ _ _ _ _ _ _ _ rfl rfl HB4.out HB5.out Try.underlying100 rfl (by exact size_ld) Try.underlying84 rfl (by exact size_al)) rfl ?_
    exact ⟨by rw [HBU.out]; rfl, HB.out⟩
end Go.Proofs.Ytinaimacocgemaa
