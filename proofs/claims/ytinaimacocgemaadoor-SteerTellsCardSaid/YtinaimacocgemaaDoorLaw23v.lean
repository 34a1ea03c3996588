/- SteerTurns. -/
import Derived.Test.YtinaimacocgemaaDoorLaw23u
namespace Go.Proofs.YtinaimacocgemaaDoor
open Go.RowKit Go.Own Bs
set_option linter.unusedVariables false
set_option linter.unusedSimpArgs false
theorem wax_bel {w w' : World} (h : WAx w) (hb : Below w.heap.size w w') : WAx w' := h.below hb h.lt
theorem WAx.row {w : World} (h : WAx w) {g : Nat} (hg : 0 < g) (cs : Array Value) : WAx (w.setRow g cs) :=
  ⟨by simpa [World.setRow] using h.lt, fun i hi j hj => by
    have h1 := h.c i hi j hj
    unfold World.cell? at h1 ⊢
    rw [show (w.setRow g cs).heap[(⟨0, i * 3 + j, none⟩ : Addr).block]? = w.heap[(⟨0, i * 3 + j, none⟩ : Addr).block]? from setRow_other w g 0 cs (by omega)]
    exact h1⟩
def ngF (y : Nat → Int) : Nat → Int := fun j => -(y j)
def ngP (y : Nat → Int) (m k : Nat) : Int := if k < m then -(y k) else 0
theorem ngP_set (y : Nat → Int) {m : Nat} (hm : m < 3) : (#[.int .i32 (ngP y m 0), .int .i32 (ngP y m 1), .int .i32 (ngP y m 2)] : Array Value).setIfInBounds m (.int .i32 (-(y m))) = #[.int .i32 (ngP y (m + 1) 0), .int .i32 (ngP y (m + 1) 1), .int .i32 (ngP y (m + 1) 2)] := by
  rcases (by omega : m = 0 ∨ m = 1 ∨ m = 2) with rfl | rfl | rfl <;> rfl
theorem qx_at (a : Nat → Int) {k : Nat} (hk : k < 4) : (#[.int .i32 (a 0), .int .i32 (a 1), .int .i32 (a 2), .int .i32 (a 3)] : Array Value)[k]? = some (.int .i32 (a k)) := by
  rcases (by omega : k = 0 ∨ k = 1 ∨ k = 2 ∨ k = 3) with rfl | rfl | rfl | rfl <;> rfl
set_option maxRecDepth 100000 in
set_option maxHeartbeats 8000000 in
theorem walk_SteerTurns (x0 y0 z0 x1 y1 z1 a2 a3 : Int) (w : World) (wx0 : (Lit.int .i32 x0).wf = true) (wy0 : (Lit.int .i32 y0).wf = true) (wz0 : (Lit.int .i32 z0).wf = true) (wx1 : (Lit.int .i32 x1).wf = true) (wy1 : (Lit.int .i32 y1).wf = true) (wz1 : (Lit.int .i32 z1).wf = true) (w2 : (Lit.int .i16 a2).wf = true) (w3 : (Lit.int .i16 a3).wf = true) (hG : WAx w) :
    Calls Tryd.prog 5 #[.agg #[.int .i32 x0, .int .i32 y0, .int .i32 z0], .agg #[.int .i32 x1, .int .i32 y1, .int .i32 z1], .int .i16 a2, .int .i16 a3] w fun e w' => e = .returned (.bool true) ∧ Below w.heap.size w w' := by
  obtain ⟨b, hb3, rfl, rfl, rfl⟩ := vec_of wx0 wy0 wz0
  obtain ⟨t, ht3, rfl, rfl, rfl⟩ := vec_of wx1 wy1 wz1
  obtain ⟨glo, ghi⟩ := bounds_i16 w2
  obtain ⟨mlo, mhi⟩ := bounds_i16 w3
  have HB3 := Lib.hid hb3
  have HT3 := Lib.hid ht3
  have hw0 := hG.lt
  clear wx0 wy0 wz0 wx1 wy1 wz1 w2 w3 hb3 ht3
  have hz := zero_vcS
  have hz2 := zero_qc
  have hq := ((Bq.nil w).new #[.int .i32 (b 0), .int .i32 (b 1), .int .i32 (b 2)] 23).new #[.int .i32 (t 0), .int .i32 (t 1), .int .i32 (t 2)] 23
  have hg := wax_bel hG (show Below w.heap.size w ((w.alloc (.cells #[.int .i32 (b 0), .int .i32 (b 1), .int .i32 (b 2)] 23)).alloc (.cells #[.int .i32 (t 0), .int .i32 (t 1), .int .i32 (t 2)] 23)) by repeat' (first | (with_reducible exact Below.refl _ _) | (with_reducible assumption) | (with_reducible refine Below.setCell ?_ ?_ _) | (with_reducible refine Below.alloc ?_ ?_ _) | (with_reducible refine Below.drew ?_) | (with_reducible refine Below.drawsN ?_ _) | go_size))
  go_enter Tryd.func5, Tryd.ntmps5
  go_upto_region 1 with fail
  obtain ⟨w1, hw1⟩ : ∃ w1, w1 = (w.alloc (.cells #[.int .i32 (b 0), .int .i32 (b 1), .int .i32 (b 2)] 23)).alloc (.cells #[.int .i32 (t 0), .int .i32 (t 1), .int .i32 (t 2)] 23) := ⟨_, rfl⟩
  simp only [World.size_alloc] at hq
  rw [← hw1] at hq hg ⊢
  obtain ⟨g5, hg5⟩ : ∃ g, g = w.heap.size + 1 := ⟨_, rfl⟩
  rw [← hg5] at hq ⊢
  obtain ⟨g4, hg4⟩ : ∃ g, g = w.heap.size := ⟨_, rfl⟩
  rw [← hg4] at hq
  rw [show (Value.pointer (some ⟨w.heap.size, 0, none⟩)) = .pointer (some ⟨g4, 0, none⟩) by rw [hg4]]
  have HQ := Lib.hid (show Bq w w1 [(g4, #[.int .i32 (b 0), .int .i32 (b 1), .int .i32 (b 2)], 23), (g5, #[.int .i32 (t 0), .int .i32 (t 1), .int .i32 (t 2)], 23)] from hq)
  have HG := Lib.hid hg
  clear hq hw1 hg5 hg4 hg hG
  go_wp2_with fail
  go_at_call 6
  refine (awake23 _).mono ?_
  rintro e w2 ⟨rfl, hb⟩
  have HQ2 := Lib.hid (HQ.out.step hb)
  have HG2 := Lib.hid (wax_bel HG.out hb)
  clear hb HQ HG
  go_upto_region 4 with fail
  have hq := (HQ2.out.new #[.int .i32 0, .int .i32 0, .int .i32 0] 23).new #[.int .i32 0, .int .i32 0, .int .i32 0] 23
  have hg := wax_bel HG2.out (show Below w2.heap.size w2 ((w2.alloc (.cells #[.int .i32 0, .int .i32 0, .int .i32 0] 23)).alloc (.cells #[.int .i32 0, .int .i32 0, .int .i32 0] 23)) by repeat' (first | (with_reducible exact Below.refl _ _) | (with_reducible assumption) | (with_reducible refine Below.setCell ?_ ?_ _) | (with_reducible refine Below.alloc ?_ ?_ _) | (with_reducible refine Below.drew ?_) | (with_reducible refine Below.drawsN ?_ _) | go_size))
  simp only [World.size_alloc] at hq
  obtain ⟨w3, hw3⟩ : ∃ w1, w1 = (w2.alloc (.cells #[.int .i32 0, .int .i32 0, .int .i32 0] 23)).alloc (.cells #[.int .i32 0, .int .i32 0, .int .i32 0] 23) := ⟨_, rfl⟩
  rw [← hw3] at hq hg ⊢
  obtain ⟨g10, hg10⟩ : ∃ g, g = w2.heap.size + 1 := ⟨_, rfl⟩
  rw [← hg10] at hq ⊢
  obtain ⟨g9, hg9⟩ : ∃ g, g = w2.heap.size := ⟨_, rfl⟩
  rw [← hg9] at hq ⊢
  have HQ3 := Lib.hid (show Bq w w3 [(g4, #[.int .i32 (b 0), .int .i32 (b 1), .int .i32 (b 2)], 23), (g5, #[.int .i32 (t 0), .int .i32 (t 1), .int .i32 (t 2)], 23), (g9, #[.int .i32 (smP b 10000 0 0), .int .i32 (smP b 10000 0 1), .int .i32 (smP b 10000 0 2)], 23), (g10, #[.int .i32 (smP t 10000 0 0), .int .i32 (smP t 10000 0 1), .int .i32 (smP t 10000 0 2)], 23)] from hq)
  have HG3 := Lib.hid hg
  have hgne : g10 ≠ g9 := by omega
  clear hq hw3 hg10 hg9 hg HQ2 HG2
  go_wp2_with fail
  go_loopw [26] (fun v wr => ∃ k : Nat, k ≤ 3 ∧ v = .int .i64 (k : Nat) ∧ Bq w wr [(g4, #[.int .i32 (b 0), .int .i32 (b 1), .int .i32 (b 2)], 23), (g5, #[.int .i32 (t 0), .int .i32 (t 1), .int .i32 (t 2)], 23), (g9, #[.int .i32 (smP b 10000 k 0), .int .i32 (smP b 10000 k 1), .int .i32 (smP b 10000 k 2)], 23), (g10, #[.int .i32 (smP t 10000 k 0), .int .i32 (smP t 10000 k 1), .int .i32 (smP t 10000 k 2)], 23)] ∧ WAx wr) (fun v _ => 3 - (intOf v).toNat)
  case atStart => exact ⟨0, Nat.zero_le _, rfl, HQ3.out, HG3.out⟩
  case round =>
    clear HQ3 HG3
    obtain ⟨k, hk, rfl, hq, hg⟩ := hrel
    have HQ := Lib.hid hq
    have HG := Lib.hid hg
    clear hq hg
    by_cases h3 : k < 3
    · go_upto_region 7 with fail
      have hbb := HB3.out k h3
      have htb := HT3.out k h3
      have hqd := HQ.out.step (bel_drewV wr 1)
      have hgd := wax_bel HG.out (bel_drewV wr 1)
      have hv1 := hqd.set 2 rfl k (.int .i32 ((b k).tmod 10000))
      have hv2 := hv1.set 3 rfl k (.int .i32 ((t k).tmod 10000))
      have n9 : g9 ≠ 0 := by have := HQ.out.low 2 rfl; omega
      have n10 : g10 ≠ 0 := by have := HQ.out.low 3 rfl; omega
      have hg2 := (hgd.set n9 k (.int .i32 ((b k).tmod 10000))).set n10 k (.int .i32 ((t k).tmod 10000))
      have b4 := HQ.out.of 0 rfl
      have b5 := HQ.out.of 1 rfl
      have c4 := cell_of_row _ _ k _ _ _ b4
      have c5 := cell_of_row _ _ k _ _ _ b5
      rw [vx_at _ h3] at c4 c5
      have d4 := cell_of_row _ _ k _ _ _ (hv1.of 0 rfl)
      have d5 := cell_of_row _ _ k _ _ _ (hv1.of 1 rfl)
      rw [vx_at _ h3] at d4 d5
      have q4 := cell_of_row _ _ k _ _ _ (hv2.of 0 rfl)
      have q5 := cell_of_row _ _ k _ _ _ (hv2.of 1 rfl)
      rw [vx_at _ h3] at q4 q5
      have c9 := cell_of_row _ _ k _ _ _ (HQ.out.of 2 rfl)
      have c10 := cell_of_row _ _ k _ _ _ (HQ.out.of 3 rfl)
      rw [vx_at _ h3] at c9 c10
      have f9 := frozen_of_row _ _ k _ _ (HQ.out.of 2 rfl)
      have f10 := frozen_of_row _ _ k _ _ (HQ.out.of 3 rfl)
      have e9 : (#[.int .i32 (smP b 10000 k 0), .int .i32 (smP b 10000 k 1), .int .i32 (smP b 10000 k 2)] : Array Value).setIfInBounds k (.int .i32 ((b k).tmod 10000)) = #[.int .i32 (smP b 10000 (k + 1) 0), .int .i32 (smP b 10000 (k + 1) 1), .int .i32 (smP b 10000 (k + 1) 2)] := smP_set b 10000 h3
      have e10 : (#[.int .i32 (smP t 10000 k 0), .int .i32 (smP t 10000 k 1), .int .i32 (smP t 10000 k 2)] : Array Value).setIfInBounds k (.int .i32 ((t k).tmod 10000)) = #[.int .i32 (smP t 10000 (k + 1) 0), .int .i32 (smP t 10000 (k + 1) 1), .int .i32 (smP t 10000 (k + 1) 2)] := smP_set t 10000 h3
      have HV2 := Lib.hid (show Bq w _ [(g4, #[.int .i32 (b 0), .int .i32 (b 1), .int .i32 (b 2)], 23), (g5, #[.int .i32 (t 0), .int .i32 (t 1), .int .i32 (t 2)], 23), (g9, #[.int .i32 (smP b 10000 (k + 1) 0), .int .i32 (smP b 10000 (k + 1) 1), .int .i32 (smP b 10000 (k + 1) 2)], 23), (g10, #[.int .i32 (smP t 10000 (k + 1) 0), .int .i32 (smP t 10000 (k + 1) 1), .int .i32 (smP t 10000 (k + 1) 2)], 23)] from by rw [← e9, ← e10]; exact hv2)
      have HG4 := Lib.hid hg2
      clear hqd hgd hv1 hv2 hg2 b4 b5 e9 e10 n9 n10 HQ HG
      obtain ⟨I, W, hne, hWI, hIW⟩ := Go.Mix.family (fun v => v.cell? ⟨g4, k, none⟩ = some (.int .i32 (b k)) ∧ v.cell? ⟨g5, k, none⟩ = some (.int .i32 (t k))) ⟨c4, c5⟩
      have y4 := fun i => (hWI i).1
      have y5 := fun i => (hWI i).2
      have HJ := Lib.hid hIW
      clear hWI hIW
      refine Go.Mix.wp_region (fun w' => ∃ i, w' = W i) (by kernel_rfl) (by kernel_rfl) (HJ.out _ ⟨c4, c5⟩) ?_
      simp only []
      (repeat (first | (refine Go.Mix.walk_calm rfl ?_ (fun K hK => ?_); (first | exact Go.Mix.wanted_none rfl | exact Go.Mix.wanted_tt rfl rfl rfl | exact Go.Mix.wanted_ff rfl rfl rfl); go_big_quiet_op; refine hK _ ?_; clear hK K) | (refine Go.Mix.walk_skip ?_ (fun K hK => ?_); (first | exact Go.Mix.wanted_tf rfl rfl rfl | exact Go.Mix.wanted_ft rfl rfl rfl); go_simp; refine hK _ ?_; clear hK K) | (refine Go.Mix.walk_loud rfl ?_ (fun K hK => ?_); (first | exact Go.Mix.wanted_none rfl | exact Go.Mix.wanted_tt rfl rfl rfl | exact Go.Mix.wanted_ff rfl rfl rfl); (first | go_big_op | go_simp); (first | (refine hK _ _ trivial ?_; clear hK K) | (fail; (try dsimp only); refine hK _ _ trivial ?_; clear hK K))) | (refine Go.Mix.walk_step (fun K hK => ?_); go_simp; (try (go_ints; try go_simp)); refine hK _ _ ?_; clear hK K)))
      (refine Go.Mix.walk_loud rfl ?_ (fun K hK => ?_); (first | exact Go.Mix.wanted_none rfl | exact Go.Mix.wanted_tt rfl rfl rfl | exact Go.Mix.wanted_ff rfl rfl rfl); (first | go_big_op | go_simp); refine hK _ _ (HJ.out _ ⟨d4, d5⟩) ?_; clear hK K)
      (repeat (first | (refine Go.Mix.walk_calm rfl ?_ (fun K hK => ?_); (first | exact Go.Mix.wanted_none rfl | exact Go.Mix.wanted_tt rfl rfl rfl | exact Go.Mix.wanted_ff rfl rfl rfl); go_big_quiet_op; refine hK _ ?_; clear hK K) | (refine Go.Mix.walk_skip ?_ (fun K hK => ?_); (first | exact Go.Mix.wanted_tf rfl rfl rfl | exact Go.Mix.wanted_ft rfl rfl rfl); go_simp; refine hK _ ?_; clear hK K) | (refine Go.Mix.walk_loud rfl ?_ (fun K hK => ?_); (first | exact Go.Mix.wanted_none rfl | exact Go.Mix.wanted_tt rfl rfl rfl | exact Go.Mix.wanted_ff rfl rfl rfl); (first | go_big_op | go_simp); (first | (refine hK _ _ trivial ?_; clear hK K) | (fail; (try dsimp only); refine hK _ _ trivial ?_; clear hK K))) | (refine Go.Mix.walk_step (fun K hK => ?_); go_simp; (try (go_ints; try go_simp)); refine hK _ _ ?_; clear hK K)))
      (refine Go.Mix.walk_loud rfl ?_ (fun K hK => ?_); (first | exact Go.Mix.wanted_none rfl | exact Go.Mix.wanted_tt rfl rfl rfl | exact Go.Mix.wanted_ff rfl rfl rfl); (first | go_big_op | go_simp); refine hK _ _ (HJ.out _ ⟨q4, q5⟩) ?_; clear hK K)
      refine Go.Mix.walk_nil ?_
      clear HJ hne c4 c5 d4 d5 q4 q5 c9 c10 f9 f10 y4 y5
      clear W I
      go_wp2_with fail
      go_roundw
      case rel => exact ⟨k + 1, by omega, by go_num, HV2.out, HG4.out⟩
      case measure => simp [intOf]; omega
    · obtain rfl : k = 3 := by omega
      clear hk h3
      obtain ⟨x, hx⟩ : ∃ x, x = smF b 10000 := ⟨_, rfl⟩
      obtain ⟨y, hy⟩ : ∃ y, y = smF t 10000 := ⟨_, rfl⟩
      have hxb : ∀ j, -9999 ≤ x j ∧ x j ≤ 9999 := fun j => by have := sm_bd b (n := 10000) (by decide) j; rw [hx]; omega
      have hyb : ∀ j, j < 3 → -9999 ≤ y j ∧ y j ≤ 9999 := fun j _ => by have := sm_bd t (n := 10000) (by decide) j; rw [hy]; omega
      have hx3 : In3 x := fun j hj => by have := hxb j; omega
      have hy3 : In3 y := fun j hj => by have := hyb j hj; omega
      have HQ5 := Lib.hid (show Bq w wr [(g4, #[.int .i32 (b 0), .int .i32 (b 1), .int .i32 (b 2)], 23), (g5, #[.int .i32 (t 0), .int .i32 (t 1), .int .i32 (t 2)], 23), (g9, #[.int .i32 (x 0), .int .i32 (x 1), .int .i32 (x 2)], 23), (g10, #[.int .i32 (y 0), .int .i32 (y 1), .int .i32 (y 2)], 23)] from by rw [hx, hy]; exact HQ.out)
      have HXB := Lib.hid hxb
      have HYB := Lib.hid hyb
      have HX3 := Lib.hid hx3
      have HY3 := Lib.hid hy3
      clear hx hy hxb hyb hx3 hy3 HQ hgne
      go_upto_region 10 with fail
      obtain ⟨w5, hw5⟩ : ∃ w6, w6 = wr := ⟨_, rfl⟩
      have HG6 := Lib.hid HG.out
      rw [← hw5] at HQ5 HG6 ⊢
      clear hw5 HG
      have b9 := HQ5.out.of 2 rfl
      have l9 := box_lt b9
      obtain ⟨u, hu⟩ : ∃ u, u = bdF x zeroF a2 0 a3 := ⟨_, rfl⟩
      obtain ⟨v, hv⟩ : ∃ v, v = bdF zeroF x a2 0 a3 := ⟨_, rfl⟩
      have HU := Lib.hid hu
      have HV := Lib.hid hv
      clear hu hv
      obtain ⟨I, W, hne, hWI, hIW⟩ := Go.Mix.family (fun v => Below w5.heap.size w5 v) (Below.refl _ _)
      have HJ := Lib.hid hIW
      have HW := Lib.hid hWI
      clear hWI hIW
      refine Go.Flo3.wp_region (fun w' => ∃ i, w' = W i) 12 [Go.Flo.Spec.is (.agg #[.int .i32 (u 0), .int .i32 (u 1), .int .i32 (u 2)]), Go.Flo.Spec.is (.agg #[.int .i32 (v 0), .int .i32 (v 1), .int .i32 (v 2)]), Go.Flo.Spec.ptr w5.heap.size #[.int .i32 0, .int .i32 0, .int .i32 0] 23, Go.Flo.Spec.ptr w5.heap.size #[.int .i32 0, .int .i32 0, .int .i32 0] 23] (by kernel_rfl) (by kernel_rfl) (by decide) (by rintro _ w' ⟨i, rfl⟩ hb; exact HJ.out _ ((HW.out i).trans (hb.mono (HW.out i).size))) (HJ.out _ (Below.refl _ _).drew) ?_
      simp only [Go.Flo.pair, Go.Mix.calm, List.take, List.drop, if_true, Bool.false_eq_true, if_false, Nat.reduceAdd, Nat.reduceSub]
      (refine Go.Flo.fw_calm rfl ?_ (fun K hK => ?_); (first | exact Go.Mix.wanted_none rfl | exact Go.Mix.wanted_tt rfl rfl rfl | exact Go.Mix.wanted_ff rfl rfl rfl); refine Go.Flo.quiet_load_row 23 _ rfl _ rfl _ #[.int .i32 (x 0), .int .i32 (x 1), .int .i32 (x 2)] _ (by rintro _ ⟨i, rfl⟩; exact ((HW.out i).block _ l9).trans b9) Tryd.underlying23 rfl size_vc ?_; go_simp; refine hK _ ?_; clear hK K)
      (first | (refine Go.Flo.fw_calm rfl ?_ (fun K hK => ?_); (first | exact Go.Mix.wanted_none rfl | exact Go.Mix.wanted_tt rfl rfl rfl | exact Go.Mix.wanted_ff rfl rfl rfl); go_big_quiet_op; refine hK _ ?_; clear hK K) | (refine Go.Flo.fw_skip ?_ (fun K hK => ?_); (first | exact Go.Mix.wanted_tf rfl rfl rfl | exact Go.Mix.wanted_ft rfl rfl rfl); go_simp; refine hK _ ?_; clear hK K) | (refine Go.Flo.fw_any rfl ?_ (fun K hK => ?_); (first | exact Go.Mix.wanted_none rfl | exact Go.Mix.wanted_tt rfl rfl rfl | exact Go.Mix.wanted_ff rfl rfl rfl); go_simp; (try (go_ints; try go_simp)); refine hK _ ?_; clear hK K))
      (first | (refine Go.Flo.fw_calm rfl ?_ (fun K hK => ?_); (first | exact Go.Mix.wanted_none rfl | exact Go.Mix.wanted_tt rfl rfl rfl | exact Go.Mix.wanted_ff rfl rfl rfl); go_big_quiet_op; refine hK _ ?_; clear hK K) | (refine Go.Flo.fw_skip ?_ (fun K hK => ?_); (first | exact Go.Mix.wanted_tf rfl rfl rfl | exact Go.Mix.wanted_ft rfl rfl rfl); go_simp; refine hK _ ?_; clear hK K) | (refine Go.Flo.fw_any rfl ?_ (fun K hK => ?_); (first | exact Go.Mix.wanted_none rfl | exact Go.Mix.wanted_tt rfl rfl rfl | exact Go.Mix.wanted_ff rfl rfl rfl); go_simp; (try (go_ints; try go_simp)); refine hK _ ?_; clear hK K))
      (first | (refine Go.Flo.fw_calm rfl ?_ (fun K hK => ?_); (first | exact Go.Mix.wanted_none rfl | exact Go.Mix.wanted_tt rfl rfl rfl | exact Go.Mix.wanted_ff rfl rfl rfl); go_big_quiet_op; refine hK _ ?_; clear hK K) | (refine Go.Flo.fw_skip ?_ (fun K hK => ?_); (first | exact Go.Mix.wanted_tf rfl rfl rfl | exact Go.Mix.wanted_ft rfl rfl rfl); go_simp; refine hK _ ?_; clear hK K) | (refine Go.Flo.fw_any rfl ?_ (fun K hK => ?_); (first | exact Go.Mix.wanted_none rfl | exact Go.Mix.wanted_tt rfl rfl rfl | exact Go.Mix.wanted_ff rfl rfl rfl); go_simp; (try (go_ints; try go_simp)); refine hK _ ?_; clear hK K))
      refine Go.Flo.fw_loud rfl ?_ rfl (by simp) (fun wv hwv hav K hK => ?_) (fun v hv K hK => ?_)
      · (first | exact Go.Mix.wanted_none rfl | exact Go.Mix.wanted_tt rfl rfl rfl | exact Go.Mix.wanted_ff rfl rfl rfl)
      · obtain ⟨iv, rfl⟩ := hwv
        have hbv := HW.out iv
        (first | go_big_op | go_simp)
        go_at_call 18
        refine (Bdot_any x zeroF a2 0 a3 _ HX3.out (fun _ _ => by unfold zeroF; decide) (by omega) (by omega) (by omega) (by omega)).mono ?_
        rintro e w' ⟨rfl, hb⟩
        rw [← HU.out]
        exact hK _ _ (Go.Flo.owes_is _ rfl hb)
      obtain rfl := hv.is
      go_simp
      refine hK _ ?_
      clear hK K hv
      (first | (refine Go.Flo.fw_calm rfl ?_ (fun K hK => ?_); (first | exact Go.Mix.wanted_none rfl | exact Go.Mix.wanted_tt rfl rfl rfl | exact Go.Mix.wanted_ff rfl rfl rfl); go_big_quiet_op; refine hK _ ?_; clear hK K) | (refine Go.Flo.fw_skip ?_ (fun K hK => ?_); (first | exact Go.Mix.wanted_tf rfl rfl rfl | exact Go.Mix.wanted_ft rfl rfl rfl); go_simp; refine hK _ ?_; clear hK K) | (refine Go.Flo.fw_any rfl ?_ (fun K hK => ?_); (first | exact Go.Mix.wanted_none rfl | exact Go.Mix.wanted_tt rfl rfl rfl | exact Go.Mix.wanted_ff rfl rfl rfl); go_simp; (try (go_ints; try go_simp)); refine hK _ ?_; clear hK K))
      (refine Go.Flo.fw_calm rfl ?_ (fun K hK => ?_); (first | exact Go.Mix.wanted_none rfl | exact Go.Mix.wanted_tt rfl rfl rfl | exact Go.Mix.wanted_ff rfl rfl rfl); refine Go.Flo.quiet_load_row 23 _ rfl _ rfl _ #[.int .i32 (x 0), .int .i32 (x 1), .int .i32 (x 2)] _ (by rintro _ ⟨i, rfl⟩; exact ((HW.out i).block _ l9).trans b9) Tryd.underlying23 rfl size_vc ?_; go_simp; refine hK _ ?_; clear hK K)
      (first | (refine Go.Flo.fw_calm rfl ?_ (fun K hK => ?_); (first | exact Go.Mix.wanted_none rfl | exact Go.Mix.wanted_tt rfl rfl rfl | exact Go.Mix.wanted_ff rfl rfl rfl); go_big_quiet_op; refine hK _ ?_; clear hK K) | (refine Go.Flo.fw_skip ?_ (fun K hK => ?_); (first | exact Go.Mix.wanted_tf rfl rfl rfl | exact Go.Mix.wanted_ft rfl rfl rfl); go_simp; refine hK _ ?_; clear hK K) | (refine Go.Flo.fw_any rfl ?_ (fun K hK => ?_); (first | exact Go.Mix.wanted_none rfl | exact Go.Mix.wanted_tt rfl rfl rfl | exact Go.Mix.wanted_ff rfl rfl rfl); go_simp; (try (go_ints; try go_simp)); refine hK _ ?_; clear hK K))
      (first | (refine Go.Flo.fw_calm rfl ?_ (fun K hK => ?_); (first | exact Go.Mix.wanted_none rfl | exact Go.Mix.wanted_tt rfl rfl rfl | exact Go.Mix.wanted_ff rfl rfl rfl); go_big_quiet_op; refine hK _ ?_; clear hK K) | (refine Go.Flo.fw_skip ?_ (fun K hK => ?_); (first | exact Go.Mix.wanted_tf rfl rfl rfl | exact Go.Mix.wanted_ft rfl rfl rfl); go_simp; refine hK _ ?_; clear hK K) | (refine Go.Flo.fw_any rfl ?_ (fun K hK => ?_); (first | exact Go.Mix.wanted_none rfl | exact Go.Mix.wanted_tt rfl rfl rfl | exact Go.Mix.wanted_ff rfl rfl rfl); go_simp; (try (go_ints; try go_simp)); refine hK _ ?_; clear hK K))
      refine Go.Flo.fw_loud rfl ?_ rfl (by simp) (fun wv hwv hav K hK => ?_) (fun v hv K hK => ?_)
      · (first | exact Go.Mix.wanted_none rfl | exact Go.Mix.wanted_tt rfl rfl rfl | exact Go.Mix.wanted_ff rfl rfl rfl)
      · obtain ⟨iv, rfl⟩ := hwv
        have hbv := HW.out iv
        (first | go_big_op | go_simp)
        go_at_call 18
        refine (Bdot_any zeroF x a2 0 a3 _ (fun _ _ => by unfold zeroF; decide) HX3.out (by omega) (by omega) (by omega) (by omega)).mono ?_
        rintro e w' ⟨rfl, hb⟩
        rw [← HV.out]
        exact hK _ _ (Go.Flo.owes_is _ rfl hb)
      obtain rfl := hv.is
      go_simp
      refine hK _ ?_
      clear hK K hv
      refine Go.Flo.fw_loud rfl ?_ rfl (by simp) (fun wv hwv hav K hK => ?_) (fun v hv K hK => ?_)
      · (first | exact Go.Mix.wanted_none rfl | exact Go.Mix.wanted_tt rfl rfl rfl | exact Go.Mix.wanted_ff rfl rfl rfl)
      · obtain ⟨iv, rfl⟩ := hwv
        (first | go_big_op | go_simp)
        refine hK _ _ (Go.Flo.owes_ptr (HW.out iv).size)
      obtain ⟨g14, hg14, rfl, hng14⟩ := hv.ptr rfl
      go_simp
      refine hK _ ?_
      clear hK K hv
      refine Go.Flo.fw_loud rfl ?_ rfl (by simp) (fun wv hwv hav K hK => ?_) (fun v hv K hK => ?_)
      · (first | exact Go.Mix.wanted_none rfl | exact Go.Mix.wanted_tt rfl rfl rfl | exact Go.Mix.wanted_ff rfl rfl rfl)
      · obtain ⟨iv, rfl⟩ := hwv
        (first | go_big_op | go_simp)
        refine hK _ _ (Go.Flo.owes_ptr (HW.out iv).size)
      obtain ⟨g15, hg15, rfl, hng15⟩ := hv.ptr rfl
      go_simp
      refine hK _ ?_
      clear hK K hv
      have hng : g15 ≠ g14 := fun e => hng15 (e ▸ .inl rfl)
      refine Go.Flo.fw_nil ?_
      intro wc hwwc hfwc huwc
      obtain ⟨iend, hiend⟩ := hwwc
      have hbwc := HW.out iend
      rw [← hiend] at hbwc
      clear hiend iend huwc
      have h15 := Go.Flo.says_ptr ((hfwc (some 15)).2 rfl).1
      have h14 := Go.Flo.says_ptr ((hfwc (some 14)).1.2 rfl).1
      obtain ⟨hq, h15'⟩ := HQ5.out.two hbwc hg14 hg15 hng h14 h15 #[.int .i32 (u 0), .int .i32 (u 1), .int .i32 (u 2)] #[.int .i32 (v 0), .int .i32 (v 1), .int .i32 (v 2)]
      have hw05 := HG6.out.lt
      have hgc := wax_bel HG6.out hbwc
      have hsz5 := HG6.out.lt
      have hg2 : WAx ((wc.setRow g14 #[.int .i32 (u 0), .int .i32 (u 1), .int .i32 (u 2)]).setRow g15 #[.int .i32 (v 0), .int .i32 (v 1), .int .i32 (v 2)]) := (hgc.row (by omega) _).row (by omega) _
      have HQ6 := Lib.hid (show Bq w _ [(g4, #[.int .i32 (b 0), .int .i32 (b 1), .int .i32 (b 2)], 23), (g5, #[.int .i32 (t 0), .int .i32 (t 1), .int .i32 (t 2)], 23), (g9, #[.int .i32 (x 0), .int .i32 (x 1), .int .i32 (x 2)], 23), (g10, #[.int .i32 (y 0), .int .i32 (y 1), .int .i32 (y 2)], 23), (g14, #[.int .i32 (u 0), .int .i32 (u 1), .int .i32 (u 2)], 23), (g15, #[.int .i32 (v 0), .int .i32 (v 1), .int .i32 (v 2)], 23)] from hq)
      have HG7 := Lib.hid hg2
      clear hfwc HJ HW hne hbwc b9 l9 hng14 hng15 hng hg14 hg15 hq hgc hg2 HQ5 HG6 hsz5 hw05
      clear W I
      refine ⟨fun _ => True, trivial, ?_⟩

      (repeat (first | (refine Go.Mix.walk_calm rfl ?_ (fun K hK => ?_); (first | exact Go.Mix.wanted_none rfl | exact Go.Mix.wanted_tt rfl rfl rfl | exact Go.Mix.wanted_ff rfl rfl rfl); go_big_quiet_op; refine hK _ ?_; clear hK K) | (refine Go.Mix.walk_skip ?_ (fun K hK => ?_); (first | exact Go.Mix.wanted_tf rfl rfl rfl | exact Go.Mix.wanted_ft rfl rfl rfl); go_simp; refine hK _ ?_; clear hK K) | (refine Go.Mix.walk_loud rfl ?_ (fun K hK => ?_); (first | exact Go.Mix.wanted_none rfl | exact Go.Mix.wanted_tt rfl rfl rfl | exact Go.Mix.wanted_ff rfl rfl rfl); (first | go_big_op | go_simp); (first | (refine hK _ _ trivial ?_; clear hK K) | (fail; (try dsimp only); refine hK _ _ trivial ?_; clear hK K))) | (refine Go.Mix.walk_step (fun K hK => ?_); go_simp; (try (go_ints; try go_simp)); refine hK _ _ ?_; clear hK K)))
      (refine Go.Mix.walk_loud rfl ?_ (fun K hK => ?_); (first | exact Go.Mix.wanted_none rfl | exact Go.Mix.wanted_tt rfl rfl rfl | exact Go.Mix.wanted_ff rfl rfl rfl); refine wp_store_row 23 _ _ rfl _ #[.int .i32 (u 0), .int .i32 (u 1), .int .i32 (u 2)] rfl rfl 23 _ h14 size_vc rfl (by simp [Value.oneCell']) (hK _ _ trivial ?_); clear hK K)
      (repeat (first | (refine Go.Mix.walk_calm rfl ?_ (fun K hK => ?_); (first | exact Go.Mix.wanted_none rfl | exact Go.Mix.wanted_tt rfl rfl rfl | exact Go.Mix.wanted_ff rfl rfl rfl); go_big_quiet_op; refine hK _ ?_; clear hK K) | (refine Go.Mix.walk_skip ?_ (fun K hK => ?_); (first | exact Go.Mix.wanted_tf rfl rfl rfl | exact Go.Mix.wanted_ft rfl rfl rfl); go_simp; refine hK _ ?_; clear hK K) | (refine Go.Mix.walk_loud rfl ?_ (fun K hK => ?_); (first | exact Go.Mix.wanted_none rfl | exact Go.Mix.wanted_tt rfl rfl rfl | exact Go.Mix.wanted_ff rfl rfl rfl); (first | go_big_op | go_simp); (first | (refine hK _ _ trivial ?_; clear hK K) | (fail; (try dsimp only); refine hK _ _ trivial ?_; clear hK K))) | (refine Go.Mix.walk_step (fun K hK => ?_); go_simp; (try (go_ints; try go_simp)); refine hK _ _ ?_; clear hK K)))
      (refine Go.Mix.walk_loud rfl ?_ (fun K hK => ?_); (first | exact Go.Mix.wanted_none rfl | exact Go.Mix.wanted_tt rfl rfl rfl | exact Go.Mix.wanted_ff rfl rfl rfl); refine wp_store_row 23 _ _ rfl _ #[.int .i32 (v 0), .int .i32 (v 1), .int .i32 (v 2)] rfl rfl 23 _ h15' size_vc rfl (by simp [Value.oneCell']) (hK _ _ trivial ?_); clear hK K)
      (repeat (first | (refine Go.Mix.walk_calm rfl ?_ (fun K hK => ?_); (first | exact Go.Mix.wanted_none rfl | exact Go.Mix.wanted_tt rfl rfl rfl | exact Go.Mix.wanted_ff rfl rfl rfl); go_big_quiet_op; refine hK _ ?_; clear hK K) | (refine Go.Mix.walk_skip ?_ (fun K hK => ?_); (first | exact Go.Mix.wanted_tf rfl rfl rfl | exact Go.Mix.wanted_ft rfl rfl rfl); go_simp; refine hK _ ?_; clear hK K) | (refine Go.Mix.walk_loud rfl ?_ (fun K hK => ?_); (first | exact Go.Mix.wanted_none rfl | exact Go.Mix.wanted_tt rfl rfl rfl | exact Go.Mix.wanted_ff rfl rfl rfl); (first | go_big_op | go_simp); (first | (refine hK _ _ trivial ?_; clear hK K) | (fail; (try dsimp only); refine hK _ _ trivial ?_; clear hK K))) | (refine Go.Mix.walk_step (fun K hK => ?_); go_simp; (try (go_ints; try go_simp)); refine hK _ _ ?_; clear hK K)))
      refine Go.Mix.walk_nil ?_
      obtain ⟨w6, hw6⟩ : ∃ w4, w4 = (wc.setRow g14 #[.int .i32 (u 0), .int .i32 (u 1), .int .i32 (u 2)]).setRow g15 #[.int .i32 (v 0), .int .i32 (v 1), .int .i32 (v 2)] := ⟨_, rfl⟩
      rw [← hw6] at HQ6 HG7 ⊢
      clear hw6 h14 h15 h15'
      go_upto_region 11 with fail
      go_wp2_with fail
      go_loopw [56] (fun vv wr => ∃ k : Nat, k ≤ 3 ∧ vv = .int .i64 (k : Nat) ∧ Bq w wr [(g4, #[.int .i32 (b 0), .int .i32 (b 1), .int .i32 (b 2)], 23), (g5, #[.int .i32 (t 0), .int .i32 (t 1), .int .i32 (t 2)], 23), (g9, #[.int .i32 (x 0), .int .i32 (x 1), .int .i32 (x 2)], 23), (g10, #[.int .i32 (y 0), .int .i32 (y 1), .int .i32 (y 2)], 23), (g14, #[.int .i32 (u 0), .int .i32 (u 1), .int .i32 (u 2)], 23), (g15, #[.int .i32 (v 0), .int .i32 (v 1), .int .i32 (v 2)], 23)] ∧ WAx wr) (fun vv _ => 3 - (intOf vv).toNat)
      case atStart => exact ⟨0, Nat.zero_le _, rfl, HQ6.out, HG7.out⟩
      case round =>
        clear HQ6 HG7
        obtain ⟨k, hk, rfl, hq, hg⟩ := hrel
        have HQ := Lib.hid hq
        have HG := Lib.hid hg
        clear hq hg
        by_cases h3 : k < 3
        · have c14 := cell_of_row _ _ k _ _ _ (HQ.out.of 4 rfl)
          have c15 := cell_of_row _ _ k _ _ _ (HQ.out.of 5 rfl)
          rw [vx_at _ h3] at c14 c15
          have hu := bd_up x a2 a3 k (HXB.out k) ⟨glo, ghi⟩
          have hv := bd_down x a2 a3 k (HXB.out k) ⟨glo, ghi⟩
          have hcb := clamp_bdU (x k * a2) (max a3 0) (by omega)
          rw [← HU.out] at hu
          rw [← HV.out] at hv
          obtain ⟨p, hp⟩ : ∃ p, p = u k := ⟨_, rfl⟩
          obtain ⟨q, hqv⟩ : ∃ q, q = v k := ⟨_, rfl⟩
          rw [← hp] at hu c14
          rw [← hqv] at hv c15
          rw [← hv] at hu hcb
          have hqb : -32768 ≤ q ∧ q ≤ 32767 := by omega
          have hne : (p != -q) = false := by rw [hu]; simp
          clear hu hv hcb hp hqv
          go_upto_region 14 with fail
          go_quiet (fail)
          have HQ2 := Lib.hid (HQ.out.step (bel_drewV wr nq))
          have HG2 := Lib.hid (wax_bel HG.out (bel_drewV wr nq))
          clear HQ HG c14 c15
          go_wp2
          go_roundw
          case rel => exact ⟨k + 1, by omega, by go_num, HQ2.out, HG2.out⟩
          case measure => simp [intOf]; omega
        · obtain rfl : k = 3 := by omega
          clear hk h3
          go_upto_region 18 with fail
          have hq := HQ.out.new #[.int .i32 0, .int .i32 0, .int .i32 0] 23
          have hg := wax_bel HG.out (show Below wr.heap.size wr (wr.alloc (.cells #[.int .i32 0, .int .i32 0, .int .i32 0] 23)) by repeat' (first | (with_reducible exact Below.refl _ _) | (with_reducible assumption) | (with_reducible refine Below.setCell ?_ ?_ _) | (with_reducible refine Below.alloc ?_ ?_ _) | (with_reducible refine Below.drew ?_) | (with_reducible refine Below.drawsN ?_ _) | go_size))
          obtain ⟨w7, hw7⟩ : ∃ w5, w5 = wr.alloc (.cells #[.int .i32 0, .int .i32 0, .int .i32 0] 23) := ⟨_, rfl⟩
          obtain ⟨g17, hg17⟩ : ∃ g, g = wr.heap.size := ⟨_, rfl⟩
          rw [← hw7] at hg
          rw [← hw7, ← hg17] at hq
          rw [← hw7, ← hg17]
          have HQ7 := Lib.hid (show Bq w w7 [(g4, #[.int .i32 (b 0), .int .i32 (b 1), .int .i32 (b 2)], 23), (g5, #[.int .i32 (t 0), .int .i32 (t 1), .int .i32 (t 2)], 23), (g9, #[.int .i32 (x 0), .int .i32 (x 1), .int .i32 (x 2)], 23), (g10, #[.int .i32 (y 0), .int .i32 (y 1), .int .i32 (y 2)], 23), (g14, #[.int .i32 (u 0), .int .i32 (u 1), .int .i32 (u 2)], 23), (g15, #[.int .i32 (v 0), .int .i32 (v 1), .int .i32 (v 2)], 23), (g17, #[.int .i32 (ngP y 0 0), .int .i32 (ngP y 0 1), .int .i32 (ngP y 0 2)], 23)] from hq)
          have HG7 := Lib.hid hg
          clear hw7 hg17 hq hg HQ HG
          go_wp2_with fail
          go_loopw [68] (fun vv wr => ∃ k : Nat, k ≤ 3 ∧ vv = .int .i64 (k : Nat) ∧ Bq w wr [(g4, #[.int .i32 (b 0), .int .i32 (b 1), .int .i32 (b 2)], 23), (g5, #[.int .i32 (t 0), .int .i32 (t 1), .int .i32 (t 2)], 23), (g9, #[.int .i32 (x 0), .int .i32 (x 1), .int .i32 (x 2)], 23), (g10, #[.int .i32 (y 0), .int .i32 (y 1), .int .i32 (y 2)], 23), (g14, #[.int .i32 (u 0), .int .i32 (u 1), .int .i32 (u 2)], 23), (g15, #[.int .i32 (v 0), .int .i32 (v 1), .int .i32 (v 2)], 23), (g17, #[.int .i32 (ngP y k 0), .int .i32 (ngP y k 1), .int .i32 (ngP y k 2)], 23)] ∧ WAx wr) (fun vv _ => 3 - (intOf vv).toNat)
          case atStart => exact ⟨0, Nat.zero_le _, rfl, HQ7.out, HG7.out⟩
          case round =>
            clear HQ7 HG7
            obtain ⟨k, hk, rfl, hq, hg⟩ := hrel
            have HQ := Lib.hid hq
            have HG := Lib.hid hg
            clear hq hg
            by_cases h3 : k < 3
            · have c10 := cell_of_row _ _ k _ _ _ (HQ.out.of 3 rfl)
              have c17 := cell_of_row _ _ k _ _ _ (HQ.out.of 6 rfl)
              rw [vx_at _ h3] at c10 c17
              have f17 := frozen_of_row _ _ k _ _ (HQ.out.of 6 rfl)
              have hyb := HYB.out k h3
              have hv := HQ.out.set 6 rfl k (.int .i32 (-(y k)))
              rw [ngP_set y h3] at hv
              have n17 : g17 ≠ 0 := by have := HQ.out.low 6 rfl; omega
              have HV2 := Lib.hid hv
              have HG2 := Lib.hid (HG.out.set n17 k (.int .i32 (-(y k))))
              clear hv n17 HQ HG
              go_wp2
              go_roundw
              case rel => exact ⟨k + 1, by omega, by go_num, HV2.out, HG2.out⟩
              case measure => simp [intOf]; omega
            · obtain rfl : k = 3 := by omega
              clear hk h3
              have HQ8 := Lib.hid (show Bq w wr [(g4, #[.int .i32 (b 0), .int .i32 (b 1), .int .i32 (b 2)], 23), (g5, #[.int .i32 (t 0), .int .i32 (t 1), .int .i32 (t 2)], 23), (g9, #[.int .i32 (x 0), .int .i32 (x 1), .int .i32 (x 2)], 23), (g10, #[.int .i32 (y 0), .int .i32 (y 1), .int .i32 (y 2)], 23), (g14, #[.int .i32 (u 0), .int .i32 (u 1), .int .i32 (u 2)], 23), (g15, #[.int .i32 (v 0), .int .i32 (v 1), .int .i32 (v 2)], 23), (g17, #[.int .i32 (ngF y 0), .int .i32 (ngF y 1), .int .i32 (ngF y 2)], 23)] from HQ.out)
              obtain ⟨w8, hw8⟩ : ∃ w6, w6 = wr := ⟨_, rfl⟩
              have HG8 := Lib.hid HG.out
              rw [← hw8] at HQ8 HG8 ⊢
              clear hw8 HG HQ
              go_upto_region 23 with fail
              go_wp2_with fail
              refine (Of4 _ _ _ (heap_alloc_new _ _)).mono ?_
              rintro e w9 ⟨rfl, hb⟩
              have hba : Below w8.heap.size w8 (w8.alloc (.cells #[.int .i64 0, .int .i64 1, .int .i64 2, .int .i64 3] 3)) := by repeat' (first | (with_reducible exact Below.refl _ _) | (with_reducible assumption) | (with_reducible refine Below.setCell ?_ ?_ _) | (with_reducible refine Below.alloc ?_ ?_ _) | (with_reducible refine Below.drew ?_) | (with_reducible refine Below.drawsN ?_ _) | go_size)
              have hb9 := hba.trans (hb.mono hba.size)
              have HQ9 := Lib.hid (HQ8.out.step hb9)
              have HG9 := Lib.hid (wax_bel HG8.out hb9)
              clear hb hba hb9 HQ8 HG8
              go_upto_region 24 with fail
              have b10 := HQ9.out.of 3 rfl
              have b17 := HQ9.out.of 6 rfl
              have l10 := box_lt b10
              have l17 := box_lt b17
              obtain ⟨p, hp⟩ : ∃ p, p = shF y 15 2147483647 := ⟨_, rfl⟩
              obtain ⟨q, hq⟩ : ∃ q, q = shF (ngF y) 15 2147483647 := ⟨_, rfl⟩
              have hn3 : In3 (ngF y) := fun j hj => by have := HYB.out j hj; unfold ngF; omega
              have HN3 := Lib.hid hn3
              have HP := Lib.hid hp
              have HQQ := Lib.hid hq
              have lg := HG9.out.lt
              clear hp hq hn3
              obtain ⟨I, W, hne, hWI, hIW⟩ := Go.Mix.family (fun v => Below w9.heap.size w9 v) (Below.refl _ _)
              have HJ := Lib.hid hIW
              have HW := Lib.hid hWI
              clear hWI hIW
              refine Go.Flo3.wp_region (fun w' => ∃ i, w' = W i) 8 [Go.Flo.Spec.is (.agg #[.int .i32 (p 0), .int .i32 (p 1), .int .i32 (p 2), .int .i32 (p 3)]), Go.Flo.Spec.is (.agg #[.int .i32 (q 0), .int .i32 (q 1), .int .i32 (q 2), .int .i32 (q 3)]), Go.Flo.Spec.ptr w9.heap.size #[.int .i32 0, .int .i32 0, .int .i32 0, .int .i32 0] 27, Go.Flo.Spec.ptr w9.heap.size #[.int .i32 0, .int .i32 0, .int .i32 0, .int .i32 0] 27] (by kernel_rfl) (by kernel_rfl) (by decide) (by rintro _ w' ⟨i, rfl⟩ hb; exact HJ.out _ ((HW.out i).trans (hb.mono (HW.out i).size))) (HJ.out _ (Below.refl _ _).drew) ?_
              simp only [Go.Flo.pair, Go.Mix.calm, List.take, List.drop, if_true, Bool.false_eq_true, if_false, Nat.reduceAdd, Nat.reduceSub]
              (refine Go.Flo.fw_calm rfl ?_ (fun K hK => ?_); (first | exact Go.Mix.wanted_none rfl | exact Go.Mix.wanted_tt rfl rfl rfl | exact Go.Mix.wanted_ff rfl rfl rfl); refine Go.Flo.quiet_load_row 23 _ rfl _ rfl _ #[.int .i32 (y 0), .int .i32 (y 1), .int .i32 (y 2)] _ (by rintro _ ⟨i, rfl⟩; exact ((HW.out i).block _ l10).trans b10) Tryd.underlying23 rfl size_vc ?_; go_simp; refine hK _ ?_; clear hK K)
              (first | (refine Go.Flo.fw_calm rfl ?_ (fun K hK => ?_); (first | exact Go.Mix.wanted_none rfl | exact Go.Mix.wanted_tt rfl rfl rfl | exact Go.Mix.wanted_ff rfl rfl rfl); go_big_quiet_op; refine hK _ ?_; clear hK K) | (refine Go.Flo.fw_skip ?_ (fun K hK => ?_); (first | exact Go.Mix.wanted_tf rfl rfl rfl | exact Go.Mix.wanted_ft rfl rfl rfl); go_simp; refine hK _ ?_; clear hK K) | (refine Go.Flo.fw_any rfl ?_ (fun K hK => ?_); (first | exact Go.Mix.wanted_none rfl | exact Go.Mix.wanted_tt rfl rfl rfl | exact Go.Mix.wanted_ff rfl rfl rfl); go_simp; (try (go_ints; try go_simp)); refine hK _ ?_; clear hK K))
              refine Go.Flo.fw_loud rfl ?_ rfl (by simp) (fun wv hwv hav K hK => ?_) (fun v hv K hK => ?_)
              · (first | exact Go.Mix.wanted_none rfl | exact Go.Mix.wanted_tt rfl rfl rfl | exact Go.Mix.wanted_ff rfl rfl rfl)
              · obtain ⟨iv, rfl⟩ := hwv
                have hbv := HW.out iv
                (first | go_big_op | go_simp)
                go_at_call 7
                refine (Share_any y 15 2147483647 _ HY3.out (by decide) (by decide) (by decide) (HG9.out.below hbv lg)).mono ?_
                rintro e w' ⟨rfl, hb⟩
                rw [← HP.out]
                exact hK _ _ (Go.Flo.owes_is _ rfl hb)
              obtain rfl := hv.is
              go_simp
              refine hK _ ?_
              clear hK K hv
              (refine Go.Flo.fw_calm rfl ?_ (fun K hK => ?_); (first | exact Go.Mix.wanted_none rfl | exact Go.Mix.wanted_tt rfl rfl rfl | exact Go.Mix.wanted_ff rfl rfl rfl); refine Go.Flo.quiet_load_row 23 _ rfl _ rfl _ #[.int .i32 (ngF y 0), .int .i32 (ngF y 1), .int .i32 (ngF y 2)] _ (by rintro _ ⟨i, rfl⟩; exact ((HW.out i).block _ l17).trans b17) Tryd.underlying23 rfl size_vc ?_; go_simp; refine hK _ ?_; clear hK K)
              (first | (refine Go.Flo.fw_calm rfl ?_ (fun K hK => ?_); (first | exact Go.Mix.wanted_none rfl | exact Go.Mix.wanted_tt rfl rfl rfl | exact Go.Mix.wanted_ff rfl rfl rfl); go_big_quiet_op; refine hK _ ?_; clear hK K) | (refine Go.Flo.fw_skip ?_ (fun K hK => ?_); (first | exact Go.Mix.wanted_tf rfl rfl rfl | exact Go.Mix.wanted_ft rfl rfl rfl); go_simp; refine hK _ ?_; clear hK K) | (refine Go.Flo.fw_any rfl ?_ (fun K hK => ?_); (first | exact Go.Mix.wanted_none rfl | exact Go.Mix.wanted_tt rfl rfl rfl | exact Go.Mix.wanted_ff rfl rfl rfl); go_simp; (try (go_ints; try go_simp)); refine hK _ ?_; clear hK K))
              refine Go.Flo.fw_loud rfl ?_ rfl (by simp) (fun wv hwv hav K hK => ?_) (fun v hv K hK => ?_)
              · (first | exact Go.Mix.wanted_none rfl | exact Go.Mix.wanted_tt rfl rfl rfl | exact Go.Mix.wanted_ff rfl rfl rfl)
              · obtain ⟨iv, rfl⟩ := hwv
                have hbv := HW.out iv
                (first | go_big_op | go_simp)
                go_at_call 7
                refine (Share_any (ngF y) 15 2147483647 _ HN3.out (by decide) (by decide) (by decide) (HG9.out.below hbv lg)).mono ?_
                rintro e w' ⟨rfl, hb⟩
                rw [← HQQ.out]
                exact hK _ _ (Go.Flo.owes_is _ rfl hb)
              obtain rfl := hv.is
              go_simp
              refine hK _ ?_
              clear hK K hv
              refine Go.Flo.fw_loud rfl ?_ rfl (by simp) (fun wv hwv hav K hK => ?_) (fun v hv K hK => ?_)
              · (first | exact Go.Mix.wanted_none rfl | exact Go.Mix.wanted_tt rfl rfl rfl | exact Go.Mix.wanted_ff rfl rfl rfl)
              · obtain ⟨iv, rfl⟩ := hwv
                (first | go_big_op | go_simp)
                refine hK _ _ (Go.Flo.owes_ptr (HW.out iv).size)
              obtain ⟨g20, hg20, rfl, hng20⟩ := hv.ptr rfl
              go_simp
              refine hK _ ?_
              clear hK K hv
              refine Go.Flo.fw_loud rfl ?_ rfl (by simp) (fun wv hwv hav K hK => ?_) (fun v hv K hK => ?_)
              · (first | exact Go.Mix.wanted_none rfl | exact Go.Mix.wanted_tt rfl rfl rfl | exact Go.Mix.wanted_ff rfl rfl rfl)
              · obtain ⟨iv, rfl⟩ := hwv
                (first | go_big_op | go_simp)
                refine hK _ _ (Go.Flo.owes_ptr (HW.out iv).size)
              obtain ⟨g21, hg21, rfl, hng21⟩ := hv.ptr rfl
              go_simp
              refine hK _ ?_
              clear hK K hv
              have hng : g21 ≠ g20 := fun e => hng21 (e ▸ .inl rfl)
              refine Go.Flo.fw_nil ?_
              intro wc hwwc hfwc huwc
              obtain ⟨iend, hiend⟩ := hwwc
              have hbwc := HW.out iend
              rw [← hiend] at hbwc
              clear hiend iend huwc
              have h21 := Go.Flo.says_ptr ((hfwc (some 21)).2 rfl).1
              have h20 := Go.Flo.says_ptr ((hfwc (some 20)).1.2 rfl).1
              obtain ⟨hq, h21'⟩ := HQ9.out.two hbwc hg20 hg21 hng h20 h21 #[.int .i32 (p 0), .int .i32 (p 1), .int .i32 (p 2), .int .i32 (p 3)] #[.int .i32 (q 0), .int .i32 (q 1), .int .i32 (q 2), .int .i32 (q 3)]
              have HQA := Lib.hid (show Bq w _ [(g4, #[.int .i32 (b 0), .int .i32 (b 1), .int .i32 (b 2)], 23), (g5, #[.int .i32 (t 0), .int .i32 (t 1), .int .i32 (t 2)], 23), (g9, #[.int .i32 (x 0), .int .i32 (x 1), .int .i32 (x 2)], 23), (g10, #[.int .i32 (y 0), .int .i32 (y 1), .int .i32 (y 2)], 23), (g14, #[.int .i32 (u 0), .int .i32 (u 1), .int .i32 (u 2)], 23), (g15, #[.int .i32 (v 0), .int .i32 (v 1), .int .i32 (v 2)], 23), (g17, #[.int .i32 (ngF y 0), .int .i32 (ngF y 1), .int .i32 (ngF y 2)], 23), (g20, #[.int .i32 (p 0), .int .i32 (p 1), .int .i32 (p 2), .int .i32 (p 3)], 27), (g21, #[.int .i32 (q 0), .int .i32 (q 1), .int .i32 (q 2), .int .i32 (q 3)], 27)] from hq)
              clear hfwc HJ HW hne hbwc b10 b17 l10 l17 hng20 hng21 hng hg20 hg21 hq HQ9 HG9
              clear W I
              refine ⟨fun _ => True, trivial, ?_⟩

              (repeat (first | (refine Go.Mix.walk_calm rfl ?_ (fun K hK => ?_); (first | exact Go.Mix.wanted_none rfl | exact Go.Mix.wanted_tt rfl rfl rfl | exact Go.Mix.wanted_ff rfl rfl rfl); go_big_quiet_op; refine hK _ ?_; clear hK K) | (refine Go.Mix.walk_skip ?_ (fun K hK => ?_); (first | exact Go.Mix.wanted_tf rfl rfl rfl | exact Go.Mix.wanted_ft rfl rfl rfl); go_simp; refine hK _ ?_; clear hK K) | (refine Go.Mix.walk_loud rfl ?_ (fun K hK => ?_); (first | exact Go.Mix.wanted_none rfl | exact Go.Mix.wanted_tt rfl rfl rfl | exact Go.Mix.wanted_ff rfl rfl rfl); (first | go_big_op | go_simp); (first | (refine hK _ _ trivial ?_; clear hK K) | (fail; (try dsimp only); refine hK _ _ trivial ?_; clear hK K))) | (refine Go.Mix.walk_step (fun K hK => ?_); go_simp; (try (go_ints; try go_simp)); refine hK _ _ ?_; clear hK K)))
              (refine Go.Mix.walk_loud rfl ?_ (fun K hK => ?_); (first | exact Go.Mix.wanted_none rfl | exact Go.Mix.wanted_tt rfl rfl rfl | exact Go.Mix.wanted_ff rfl rfl rfl); refine wp_store_row 27 _ _ rfl _ #[.int .i32 (p 0), .int .i32 (p 1), .int .i32 (p 2), .int .i32 (p 3)] rfl rfl 27 _ h20 size_qc rfl (by simp [Value.oneCell']) (hK _ _ trivial ?_); clear hK K)
              (repeat (first | (refine Go.Mix.walk_calm rfl ?_ (fun K hK => ?_); (first | exact Go.Mix.wanted_none rfl | exact Go.Mix.wanted_tt rfl rfl rfl | exact Go.Mix.wanted_ff rfl rfl rfl); go_big_quiet_op; refine hK _ ?_; clear hK K) | (refine Go.Mix.walk_skip ?_ (fun K hK => ?_); (first | exact Go.Mix.wanted_tf rfl rfl rfl | exact Go.Mix.wanted_ft rfl rfl rfl); go_simp; refine hK _ ?_; clear hK K) | (refine Go.Mix.walk_loud rfl ?_ (fun K hK => ?_); (first | exact Go.Mix.wanted_none rfl | exact Go.Mix.wanted_tt rfl rfl rfl | exact Go.Mix.wanted_ff rfl rfl rfl); (first | go_big_op | go_simp); (first | (refine hK _ _ trivial ?_; clear hK K) | (fail; (try dsimp only); refine hK _ _ trivial ?_; clear hK K))) | (refine Go.Mix.walk_step (fun K hK => ?_); go_simp; (try (go_ints; try go_simp)); refine hK _ _ ?_; clear hK K)))
              (refine Go.Mix.walk_loud rfl ?_ (fun K hK => ?_); (first | exact Go.Mix.wanted_none rfl | exact Go.Mix.wanted_tt rfl rfl rfl | exact Go.Mix.wanted_ff rfl rfl rfl); refine wp_store_row 27 _ _ rfl _ #[.int .i32 (q 0), .int .i32 (q 1), .int .i32 (q 2), .int .i32 (q 3)] rfl rfl 27 _ h21' size_qc rfl (by simp [Value.oneCell']) (hK _ _ trivial ?_); clear hK K)
              (repeat (first | (refine Go.Mix.walk_calm rfl ?_ (fun K hK => ?_); (first | exact Go.Mix.wanted_none rfl | exact Go.Mix.wanted_tt rfl rfl rfl | exact Go.Mix.wanted_ff rfl rfl rfl); go_big_quiet_op; refine hK _ ?_; clear hK K) | (refine Go.Mix.walk_skip ?_ (fun K hK => ?_); (first | exact Go.Mix.wanted_tf rfl rfl rfl | exact Go.Mix.wanted_ft rfl rfl rfl); go_simp; refine hK _ ?_; clear hK K) | (refine Go.Mix.walk_loud rfl ?_ (fun K hK => ?_); (first | exact Go.Mix.wanted_none rfl | exact Go.Mix.wanted_tt rfl rfl rfl | exact Go.Mix.wanted_ff rfl rfl rfl); (first | go_big_op | go_simp); (first | (refine hK _ _ trivial ?_; clear hK K) | (fail; (try dsimp only); refine hK _ _ trivial ?_; clear hK K))) | (refine Go.Mix.walk_step (fun K hK => ?_); go_simp; (try (go_ints; try go_simp)); refine hK _ _ ?_; clear hK K)))
              refine Go.Mix.walk_nil ?_
              obtain ⟨wd, hwd⟩ : ∃ w4, w4 = (wc.setRow g20 #[.int .i32 (p 0), .int .i32 (p 1), .int .i32 (p 2), .int .i32 (p 3)]).setRow g21 #[.int .i32 (q 0), .int .i32 (q 1), .int .i32 (q 2), .int .i32 (q 3)] := ⟨_, rfl⟩
              rw [← hwd] at HQA ⊢
              clear hwd h20 h21 h21' lg
              go_upto_region 25 with fail
              go_wp2_with fail
              go_loopw [86] (fun vv wr => ∃ k : Nat, k ≤ 4 ∧ vv = .int .i64 (k : Nat) ∧ Bq w wr [(g4, #[.int .i32 (b 0), .int .i32 (b 1), .int .i32 (b 2)], 23), (g5, #[.int .i32 (t 0), .int .i32 (t 1), .int .i32 (t 2)], 23), (g9, #[.int .i32 (x 0), .int .i32 (x 1), .int .i32 (x 2)], 23), (g10, #[.int .i32 (y 0), .int .i32 (y 1), .int .i32 (y 2)], 23), (g14, #[.int .i32 (u 0), .int .i32 (u 1), .int .i32 (u 2)], 23), (g15, #[.int .i32 (v 0), .int .i32 (v 1), .int .i32 (v 2)], 23), (g17, #[.int .i32 (ngF y 0), .int .i32 (ngF y 1), .int .i32 (ngF y 2)], 23), (g20, #[.int .i32 (p 0), .int .i32 (p 1), .int .i32 (p 2), .int .i32 (p 3)], 27), (g21, #[.int .i32 (q 0), .int .i32 (q 1), .int .i32 (q 2), .int .i32 (q 3)], 27)]) (fun vv _ => 4 - (intOf vv).toNat)
              case atStart => exact ⟨0, Nat.zero_le _, rfl, HQA.out⟩
              case round =>
                clear HQA
                obtain ⟨k, hk, rfl, hq⟩ := hrel
                have HQ := Lib.hid hq
                clear hq
                by_cases h4 : k < 4
                · have c20 := cell_of_row _ _ k _ _ _ (HQ.out.of 7 rfl)
                  have c21 := cell_of_row _ _ k _ _ _ (HQ.out.of 8 rfl)
                  rw [qx_at _ h4] at c20 c21
                  have hts := turn_sh HYB.out k h4
                  rw [show (fun j => -(y j)) = ngF y from rfl, ← HP.out, ← HQQ.out] at hts
                  obtain ⟨hts1, hts2, hts3⟩ := hts
                  go_upto_region 28 with fail
                  go_quiet (fail)
                  have HQ2 := Lib.hid (HQ.out.step (bel_drewV wr nq))
                  clear HQ c20 c21
                  rcases hts1 with hs | hs
                  · rw [hs]
                    clear hs
                    go_wp2
                    go_roundw
                    case rel => exact ⟨k + 1, by omega, by go_num, HQ2.out⟩
                    case measure => simp [intOf]; omega
                  · rw [hs]
                    clear hs
                    go_wp2
                    go_roundw
                    case rel => exact ⟨k + 1, by omega, by go_num, HQ2.out⟩
                    case measure => simp [intOf]; omega
                · go_wp2
                  go_ret
                  exact ⟨rfl, HQ.out.be⟩
end Go.Proofs.YtinaimacocgemaaDoor
