/- VecClamps -/
import Derived.Test.YtikhlhdjaladgaaLaw02
import Derived.Test.YtikhlhdjaladgaaFlo
namespace Go.Proofs.Ytikhlhdjaladgaa
open Go.RowKit
set_option linter.unusedVariables false
set_option linter.unusedSimpArgs false

theorem three_of_heap {w : World} {g : Nat} {k : IntKind} {x y z : Int} {t : TypeId} (h : w.heap[g]? = some (.cells #[.int k x, .int k y, .int k z] t (0, 0))) : Three w k g x y z ∧ ∀ j, w.frozen? ⟨g, j, none⟩ = false :=
  ⟨⟨cell_of_row w g 0 _ _ _ h, cell_of_row w g 1 _ _ _ h, cell_of_row w g 2 _ _ _ h⟩, fun j => frozen_of_row w g j _ _ h⟩
theorem zero_vec (w : World) : (zeroValue 43).run Try.prog w = .ok (.agg #[.int .i32 0, .int .i32 0, .int .i32 0]) w := by kernel_rfl
theorem zero_arr (w : World) : (zeroValue 54).run Try.prog w = .ok (.agg #[.int .i64 0, .int .i64 0, .int .i64 0]) w := by kernel_rfl

theorem clamp_cases (v M : Int) (hM : 0 ≤ M) : (v < -M ∧ Fx.clamp v (-M) M = -M) ∨ (-M ≤ v ∧ v ≤ M ∧ Fx.clamp v (-M) M = v) ∨ (M < v ∧ Fx.clamp v (-M) M = M) := by
  unfold Fx.clamp
  by_cases h1 : v < -M
  · left; exact ⟨h1, by rw [if_pos h1]⟩
  · by_cases h2 : M < v
    · right; right; exact ⟨h2, by rw [if_neg h1, if_pos h2]⟩
    · right; left; exact ⟨by omega, by omega, by rw [if_neg h1, if_neg h2]⟩
theorem sgn_cases (v D : Int) (hD : 0 ≤ D) : (D < v ∧ ¬ v < -D ∧ sgn v D = 1) ∨ (¬ D < v ∧ v < -D ∧ sgn v D = -1) ∨ (¬ D < v ∧ ¬ v < -D ∧ sgn v D = 0) := by
  unfold sgn
  by_cases h1 : D < v
  · left; exact ⟨h1, by omega, by rw [if_pos h1]⟩
  · by_cases h2 : v < -D
    · right; left; exact ⟨h1, h2, by rw [if_neg h1, if_pos h2]⟩
    · right; right; exact ⟨h1, h2, by rw [if_neg h1, if_neg h2]⟩
set_option maxRecDepth 100000 in
set_option maxHeartbeats 4000000 in
theorem walk_VecClamps (ax ay az most dead : Int) (w : World) (wx : (Lit.int .i32 ax).wf = true) (wy : (Lit.int .i32 ay).wf = true) (wz : (Lit.int .i32 az).wf = true) (wm : (Lit.int .i32 most).wf = true) (wd : (Lit.int .i32 dead).wf = true) :
    Calls Try.prog 8 #[.agg #[.int .i32 ax, .int .i32 ay, .int .i32 az], .int .i32 most, .int .i32 dead] w fun e w' => e = .returned (.bool true) ∧ Below w.heap.size w w' := by
  obtain ⟨axlo, axhi⟩ := bounds_i32 wx
  obtain ⟨aylo, ayhi⟩ := bounds_i32 wy
  obtain ⟨azlo, azhi⟩ := bounds_i32 wz
  obtain ⟨mlo, mhi⟩ := bounds_i32 wm
  obtain ⟨dlo, dhi⟩ := bounds_i32 wd
  clear wx wy wz wm wd
  have hz1 := zero_vec
  have hz2 := zero_arr
  go_enter Try.func8, Try.ntmps8
  go_wp2_with (go_at_call 23; refine (awake02 _).mono ?_; rintro e w1 ⟨rfl, hb1⟩)
  have hA : Three w1 .i32 w.heap.size ax ay az := Three.below (⟨by go_simp, by go_simp, by go_simp⟩ : Three (w.alloc (Obj.cells #[.int .i32 ax, .int .i32 ay, .int .i32 az] 43)) .i32 w.heap.size ax ay az) hb1 (by simp)
  have hB : Below w.heap.size w w1 := (by repeat' (first | (with_reducible exact Below.refl _ _) | (with_reducible assumption) | (with_reducible refine Below.setCell ?_ ?_ _) | (with_reducible refine Below.alloc ?_ ?_ _) | (with_reducible refine Below.drew ?_) | (with_reducible refine Below.drawsN ?_ _) | go_size) : Below w.heap.size w (w.alloc (Obj.cells #[.int .i32 ax, .int .i32 ay, .int .i32 az] 43))).trans (hb1.mono (by simp))
  have hs1 : w.heap.size < w1.heap.size := Nat.lt_of_lt_of_le (by simp) hb1.size
  obtain ⟨M, hM⟩ : ∃ M, M = max most 0 := ⟨_, rfl⟩
  obtain ⟨D, hD⟩ : ∃ D, D = max dead 0 := ⟨_, rfl⟩
  have HM := Lib.hid hM
  have HD := Lib.hid hD
  clear hb1 hM hD
  obtain ⟨I, W, hne, hWI, hIW⟩ := Go.Mix.family (fun v => Below w1.heap.size w1 v) (Below.refl _ _)
  have HJ := Lib.hid hIW
  have HW := Lib.hid hWI
  clear hWI hIW
  refine Go.Flo.wp_region (fun w' => ∃ i, w' = W i) 8 [Go.Flo.Spec.is (.agg #[.int .i32 (Fx.clamp ax (-M) M), .int .i32 (Fx.clamp ay (-M) M), .int .i32 (Fx.clamp az (-M) M)]), Go.Flo.Spec.is (.agg #[.int .i64 (sgn ax D), .int .i64 (sgn ay D), .int .i64 (sgn az D)]), Go.Flo.Spec.ptr w1.heap.size #[.int .i32 0, .int .i32 0, .int .i32 0] 43, Go.Flo.Spec.ptr w1.heap.size #[.int .i64 0, .int .i64 0, .int .i64 0] 54] (by kernel_rfl) (by kernel_rfl) (by decide) (by rintro _ w' ⟨i, rfl⟩ hb; exact HJ.out _ ((HW.out i).trans (hb.mono (HW.out i).size))) (HJ.out _ (Below.refl _ _).drew) ?_
  simp only [Go.Flo.pair, Go.Mix.calm, List.take, List.drop, if_true, Bool.false_eq_true, if_false, Nat.reduceAdd, Nat.reduceSub]
  have e0 : ∀ i, (W i).cell? ⟨w.heap.size, 0, none⟩ = some (.int .i32 ax) := fun i => ((HW.out i).cell (p := ⟨w.heap.size, 0, none⟩) hs1).trans hA.c0
  have e1 : ∀ i, (W i).cell? ⟨w.heap.size, 1, none⟩ = some (.int .i32 ay) := fun i => ((HW.out i).cell (p := ⟨w.heap.size, 1, none⟩) hs1).trans hA.c1
  have e2 : ∀ i, (W i).cell? ⟨w.heap.size, 2, none⟩ = some (.int .i32 az) := fun i => ((HW.out i).cell (p := ⟨w.heap.size, 2, none⟩) hs1).trans hA.c2
  (repeat (first | (refine Go.Flo.fw_calm rfl ?_ (fun K hK => ?_); (first | exact Go.Mix.wanted_none rfl | exact Go.Mix.wanted_tt rfl rfl rfl | exact Go.Mix.wanted_ff rfl rfl rfl); go_big_quiet_op; refine hK _ ?_; clear hK K) | (refine Go.Flo.fw_skip ?_ (fun K hK => ?_); (first | exact Go.Mix.wanted_tf rfl rfl rfl | exact Go.Mix.wanted_ft rfl rfl rfl); go_simp; refine hK _ ?_; clear hK K) | (refine Go.Flo.fw_any rfl ?_ (fun K hK => ?_); (first | exact Go.Mix.wanted_none rfl | exact Go.Mix.wanted_tt rfl rfl rfl | exact Go.Mix.wanted_ff rfl rfl rfl); go_simp; (try (go_ints; try go_simp)); refine hK _ ?_; clear hK K)))
  refine Go.Flo.fw_loud rfl ?_ rfl (by simp) (fun wv hwv hav K hK => ?_) (fun v hv K hK => ?_)
  · (first | exact Go.Mix.wanted_none rfl | exact Go.Mix.wanted_tt rfl rfl rfl | exact Go.Mix.wanted_ff rfl rfl rfl)
  · obtain ⟨iv, rfl⟩ := hwv
    have hbv := HW.out iv
    (first | go_big_op | go_simp)
    go_at_call 32
    refine (vClamp_any ax ay az most _ mlo mhi).mono ?_
    rintro e w' ⟨rfl, hbb⟩
    rw [← HM.out]
    exact hK _ _ (Go.Flo.owes_is _ rfl hbb)
  obtain rfl := hv.is
  go_simp
  refine hK _ ?_
  clear hK K hv
  (repeat (first | (refine Go.Flo.fw_calm rfl ?_ (fun K hK => ?_); (first | exact Go.Mix.wanted_none rfl | exact Go.Mix.wanted_tt rfl rfl rfl | exact Go.Mix.wanted_ff rfl rfl rfl); go_big_quiet_op; refine hK _ ?_; clear hK K) | (refine Go.Flo.fw_skip ?_ (fun K hK => ?_); (first | exact Go.Mix.wanted_tf rfl rfl rfl | exact Go.Mix.wanted_ft rfl rfl rfl); go_simp; refine hK _ ?_; clear hK K) | (refine Go.Flo.fw_any rfl ?_ (fun K hK => ?_); (first | exact Go.Mix.wanted_none rfl | exact Go.Mix.wanted_tt rfl rfl rfl | exact Go.Mix.wanted_ff rfl rfl rfl); go_simp; (try (go_ints; try go_simp)); refine hK _ ?_; clear hK K)))
  refine Go.Flo.fw_loud rfl ?_ rfl (by simp) (fun wv hwv hav K hK => ?_) (fun v hv K hK => ?_)
  · (first | exact Go.Mix.wanted_none rfl | exact Go.Mix.wanted_tt rfl rfl rfl | exact Go.Mix.wanted_ff rfl rfl rfl)
  · obtain ⟨iv, rfl⟩ := hwv
    have hbv := HW.out iv
    (first | go_big_op | go_simp)
    go_at_call 33
    refine (vSigns_any ax ay az dead _ dlo dhi).mono ?_
    rintro e w' ⟨rfl, hbb⟩
    rw [← HD.out]
    exact hK _ _ (Go.Flo.owes_is _ rfl hbb)
  obtain rfl := hv.is
  go_simp
  refine hK _ ?_
  clear hK K hv
  refine Go.Flo.fw_loud rfl ?_ rfl (by simp) (fun wv hwv hav K hK => ?_) (fun v hv K hK => ?_)
  · (first | exact Go.Mix.wanted_none rfl | exact Go.Mix.wanted_tt rfl rfl rfl | exact Go.Mix.wanted_ff rfl rfl rfl)
  · obtain ⟨iv, rfl⟩ := hwv
    (first | go_big_op | go_simp)
    refine hK _ _ (Go.Flo.owes_ptr (HW.out iv).size)
  obtain ⟨g1, hg1, rfl, hng1⟩ := hv.ptr rfl
  go_simp
  refine hK _ ?_
  clear hK K hv
  refine Go.Flo.fw_loud rfl ?_ rfl (by simp) (fun wv hwv hav K hK => ?_) (fun v hv K hK => ?_)
  · (first | exact Go.Mix.wanted_none rfl | exact Go.Mix.wanted_tt rfl rfl rfl | exact Go.Mix.wanted_ff rfl rfl rfl)
  · obtain ⟨iv, rfl⟩ := hwv
    (first | go_big_op | go_simp)
    refine hK _ _ (Go.Flo.owes_ptr (HW.out iv).size)
  obtain ⟨g2, hg2, rfl, hng2⟩ := hv.ptr rfl
  go_simp
  refine hK _ ?_
  clear hK K hv
  have hne' := hne
  have hng : g2 ≠ g1 := fun e => hng2 (e ▸ .inl rfl)
  refine Go.Flo.fw_nil ?_
  intro w2 hww2 hfw2 huw2
  obtain ⟨iend, hiend⟩ := hww2
  have hbw2 := HW.out iend
  rw [← hiend] at hbw2
  clear hiend iend huw2
  have h8 := Go.Flo.says_ptr ((hfw2 (some 8)).2 rfl).1
  have h7 := Go.Flo.says_ptr ((hfw2 (some 7)).1.2 rfl).1
  clear hfw2 e0 e1 e2 hng1 hng2 HJ
  obtain ⟨⟨c10, c11, c12⟩, f1⟩ := three_of_heap h7
  obtain ⟨⟨c20, c21, c22⟩, f2⟩ := three_of_heap h8
  have f10 := f1 0
  have f11 := f1 1
  have f12 := f1 2
  have f20 := f2 0
  have f21 := f2 1
  have f22 := f2 2
  have hB2 := hB.trans (hbw2.mono hB.size)
  have hA2 := hA.below hbw2 hs1
  have hg1 : w.heap.size < g1 := by omega
  have hg2 : w.heap.size < g2 := by omega
  clear h7 h8 f1 f2 hA hB hbw2 HW hne'
  refine Go.Flo.tw_step ?_ (fun K hK => ?_)
  · (first | exact Go.Mix.wanted_none rfl | exact Go.Mix.wanted_tt rfl rfl rfl | exact Go.Mix.wanted_ff rfl rfl rfl)
  (first | go_big_op | go_simp)
  refine hK _ _ ?_
  clear hK K
  refine Go.Flo.tw_step ?_ (fun K hK => ?_)
  · (first | exact Go.Mix.wanted_none rfl | exact Go.Mix.wanted_tt rfl rfl rfl | exact Go.Mix.wanted_ff rfl rfl rfl)
  (first | go_big_op | go_simp)
  refine hK _ _ ?_
  clear hK K
  refine Go.Flo.tw_nil ?_
  obtain ⟨w3, hw3⟩ : ∃ w3, w3 = ((((((w2.setCell ⟨g1, 0, none⟩ (.int .i32 (Fx.clamp ax (-M) M))).setCell ⟨g1, 1, none⟩ (.int .i32 (Fx.clamp ay (-M) M))).setCell ⟨g1, 2, none⟩ (.int .i32 (Fx.clamp az (-M) M))).setCell ⟨g2, 0, none⟩ (.int .i64 (sgn ax D))).setCell ⟨g2, 1, none⟩ (.int .i64 (sgn ay D))).setCell ⟨g2, 2, none⟩ (.int .i64 (sgn az D))) := ⟨_, rfl⟩
  have a0 := hA2.c0
  have a1 := hA2.c1
  have a2 := hA2.c2
  have hC : Three w3 .i32 g1 (Fx.clamp ax (-M) M) (Fx.clamp ay (-M) M) (Fx.clamp az (-M) M) := by rw [hw3]; exact ⟨by go_simp, by go_simp, by go_simp⟩
  have hS : Three w3 .i64 g2 (sgn ax D) (sgn ay D) (sgn az D) := by rw [hw3]; exact ⟨by go_simp, by go_simp, by go_simp⟩
  have hV : Three w3 .i32 w.heap.size ax ay az := by rw [hw3]; exact ⟨by go_simp, by go_simp, by go_simp⟩
  have hB3 : Below w.heap.size w w3 := by rw [hw3]; repeat' (first | (with_reducible exact Below.refl _ _) | (with_reducible assumption) | (with_reducible refine Below.setCell ?_ ?_ _) | (with_reducible refine Below.alloc ?_ ?_ _) | (with_reducible refine Below.drew ?_) | (with_reducible refine Below.drawsN ?_ _) | go_size)
  rw [← hw3]
  clear hw3 a0 a1 a2 hA2 c10 c11 c12 c20 c21 c22 f10 f11 f12 f20 f21 f22 hB2
  have hM0 : 0 ≤ M ∧ M ≤ 2147483647 := by rw [HM.out]; omega
  have hD0 : 0 ≤ D ∧ D ≤ 2147483647 := by rw [HD.out]; omega
  have hmx : (if most < 0 then (0 : Int) else most) = M := by rw [HM.out]; split <;> omega
  have hdx : (if dead < 0 then (0 : Int) else dead) = D := by rw [HD.out]; split <;> omega
  obtain ⟨hM1, hM2⟩ := hM0
  obtain ⟨hD1, hD2⟩ := hD0
  have v0 := hV.c0
  have v1 := hV.c1
  have v2 := hV.c2
  have c0 := hC.c0
  have c1 := hC.c1
  have c2 := hC.c2
  have s0 := hS.c0
  have s1 := hS.c1
  have s2 := hS.c2
  go_wp2
  clear hmx hdx
  go_loop [31] (fun i => i = .int .i64 0 ∨ i = .int .i64 1 ∨ i = .int .i64 2 ∨ i = .int .i64 3) (fun i => 3 - (intOf i).toNat)
  case atStart => exact .inl rfl
  case round =>
    rcases hrel with rfl | rfl | rfl | rfl
    · rcases clamp_cases ax M hM1 with ⟨d1, hcl⟩ | ⟨d1, d2, hcl⟩ | ⟨d1, hcl⟩
      all_goals
        rw [hcl] at c0
        rcases sgn_cases ax D hD1 with ⟨b1, b2, hsg⟩ | ⟨b1, b2, hsg⟩ | ⟨b1, b2, hsg⟩
        all_goals
          rw [hsg] at s0
          clear hcl hsg
          go_wp2
          all_goals
            go_round
            case rel => exact .inr (.inl rfl)
            case measure => simp [intOf]
    · rcases clamp_cases ay M hM1 with ⟨d1, hcl⟩ | ⟨d1, d2, hcl⟩ | ⟨d1, hcl⟩
      all_goals
        rw [hcl] at c1
        rcases sgn_cases ay D hD1 with ⟨b1, b2, hsg⟩ | ⟨b1, b2, hsg⟩ | ⟨b1, b2, hsg⟩
        all_goals
          rw [hsg] at s1
          clear hcl hsg
          go_wp2
          all_goals
            go_round
            case rel => exact .inr (.inr (.inl rfl))
            case measure => simp [intOf]
    · rcases clamp_cases az M hM1 with ⟨d1, hcl⟩ | ⟨d1, d2, hcl⟩ | ⟨d1, hcl⟩
      all_goals
        rw [hcl] at c2
        rcases sgn_cases az D hD1 with ⟨b1, b2, hsg⟩ | ⟨b1, b2, hsg⟩ | ⟨b1, b2, hsg⟩
        all_goals
          rw [hsg] at s2
          clear hcl hsg
          go_wp2
          all_goals
            go_round
            case rel => exact .inr (.inr (.inr rfl))
            case measure => simp [intOf]
    · go_wp2
      go_ret
      exact ⟨rfl, hB3⟩
end Go.Proofs.Ytikhlhdjaladgaa
