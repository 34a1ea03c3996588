/- VecParts -/
import Derived.Test.YtikhlhdjaladgaaLaw02l
import Derived.Test.YtikhlhdjaladgaaFlo
namespace Go.Proofs.Ytikhlhdjaladgaa
open Go.RowKit
set_option linter.unusedVariables false
set_option linter.unusedSimpArgs false

theorem three_heap {w : World} {g : Nat} {k : IntKind} {x y z : Int} {t : TypeId} (h : w.heap[g]? = some (.cells #[.int k x, .int k y, .int k z] t (0, 0))) : Three w k g x y z ∧ ∀ j, w.frozen? ⟨g, j, none⟩ = false :=
  ⟨⟨cell_of_row w g 0 _ _ _ h, cell_of_row w g 1 _ _ _ h, cell_of_row w g 2 _ _ _ h⟩, fun j => frozen_of_row w g j _ _ h⟩
theorem nine_heap {w : World} {g : Nat} {x0 x1 x2 y0 y1 y2 z0 z1 z2 : Int} {t : TypeId} (h : w.heap[g]? = some (.cells #[.int .i32 x0, .int .i32 x1, .int .i32 x2, .int .i32 y0, .int .i32 y1, .int .i32 y2, .int .i32 z0, .int .i32 z1, .int .i32 z2] t (0, 0))) : Nine w g x0 x1 x2 y0 y1 y2 z0 z1 z2 :=
  ⟨cell_of_row w g 0 _ _ _ h, cell_of_row w g 1 _ _ _ h, cell_of_row w g 2 _ _ _ h, cell_of_row w g 3 _ _ _ h, cell_of_row w g 4 _ _ _ h, cell_of_row w g 5 _ _ _ h, cell_of_row w g 6 _ _ _ h, cell_of_row w g 7 _ _ _ h, cell_of_row w g 8 _ _ _ h⟩
theorem zero_vec' (w : World) : (zeroValue 43).run Try.prog w = .ok (.agg #[.int .i32 0, .int .i32 0, .int .i32 0]) w := by kernel_rfl
theorem zero_cases (a b c : Int) : (a = 0 ∧ b = 0 ∧ c = 0) ∨ (¬ a = 0) ∨ (a = 0 ∧ ¬ b = 0) ∨ (a = 0 ∧ b = 0 ∧ ¬ c = 0) := by omega
theorem sub_self_sat (b : Int) : Fx.sat (b - b) = 0 := by rw [Int.sub_self]; decide

set_option maxRecDepth 100000 in
set_option maxHeartbeats 4000000 in
theorem walk_VecParts_0 (ax ay az bx by_ bz cx cy cz k q : Int) (w : World) (axlo : -2147483648 ≤ ax) (axhi : ax ≤ 2147483647) (aylo : -2147483648 ≤ ay) (ayhi : ay ≤ 2147483647) (azlo : -2147483648 ≤ az) (azhi : az ≤ 2147483647) (bxlo : -2147483648 ≤ bx) (bxhi : bx ≤ 2147483647) (by_lo : -2147483648 ≤ by_) (by_hi : by_ ≤ 2147483647) (bzlo : -2147483648 ≤ bz) (bzhi : bz ≤ 2147483647) (cxlo : -2147483648 ≤ cx) (cxhi : cx ≤ 2147483647) (cylo : -2147483648 ≤ cy) (cyhi : cy ≤ 2147483647) (czlo : -2147483648 ≤ cz) (czhi : cz ≤ 2147483647) (klo : -2147483648 ≤ k) (khi : k ≤ 2147483647) :
    Calls Try.prog 7 #[.agg #[.int .i32 ax, .int .i32 ay, .int .i32 az], .agg #[.int .i32 bx, .int .i32 by_, .int .i32 bz], .agg #[.int .i32 cx, .int .i32 cy, .int .i32 cz], .int .i32 k, .int .i64 q] w fun e w' => e = .returned (.bool true) ∧ Below w.heap.size w w' := by
  have hz1 := zero_vec'
  go_enter Try.func7, Try.ntmps7
  go_wp2_with (go_at_call 23; refine (awake02 _).mono ?_; rintro e w1 ⟨rfl, hb1⟩)
  obtain ⟨w0, hw0⟩ : ∃ w0, w0 = ((w.alloc (Obj.cells #[.int .i32 ax, .int .i32 ay, .int .i32 az] 43)).alloc (Obj.cells #[.int .i32 bx, .int .i32 by_, .int .i32 bz] 43)).alloc (Obj.cells #[.int .i32 cx, .int .i32 cy, .int .i32 cz] 43) := ⟨_, rfl⟩
  have hs0 : w0.heap.size = w.heap.size + 3 := by rw [hw0]; simp
  have hA : Three w1 .i32 w.heap.size ax ay az := Three.below (⟨by rw [hw0]; go_simp, by rw [hw0]; go_simp, by rw [hw0]; go_simp⟩ : Three w0 .i32 w.heap.size ax ay az) (by rw [hw0]; exact hb1) (by simp; omega)
  have hA2 : Three w1 .i32 (w.heap.size + 1) bx by_ bz := Three.below (⟨by rw [hw0]; go_simp, by rw [hw0]; go_simp, by rw [hw0]; go_simp⟩ : Three w0 .i32 (w.heap.size + 1) bx by_ bz) (by rw [hw0]; exact hb1) (by simp)
  have hA3 : Three w1 .i32 (w.heap.size + 2) cx cy cz := Three.below (⟨by rw [hw0]; go_simp, by rw [hw0]; go_simp, by rw [hw0]; go_simp⟩ : Three w0 .i32 (w.heap.size + 2) cx cy cz) (by rw [hw0]; exact hb1) (by simp)
  have hB : Below w.heap.size w w1 := (by repeat' (first | (with_reducible exact Below.refl _ _) | (with_reducible assumption) | (with_reducible refine Below.setCell ?_ ?_ _) | (with_reducible refine Below.alloc ?_ ?_ _) | (with_reducible refine Below.drew ?_) | (with_reducible refine Below.drawsN ?_ _) | go_size) : Below w.heap.size w (((w.alloc (Obj.cells #[.int .i32 ax, .int .i32 ay, .int .i32 az] 43)).alloc (Obj.cells #[.int .i32 bx, .int .i32 by_, .int .i32 bz] 43)).alloc (Obj.cells #[.int .i32 cx, .int .i32 cy, .int .i32 cz] 43))).trans (hb1.mono (by simp; omega))
  have hs1 : w.heap.size + 3 ≤ w1.heap.size := Nat.le_trans (by simp) hb1.size
  clear hb1 hw0 hs0
  obtain ⟨I, W, hne, hWI, hIW⟩ := Go.Mix.family (fun v => Below w1.heap.size w1 v) (Below.refl _ _)
  have HJ := Lib.hid hIW
  have HW := Lib.hid hWI
  clear hWI hIW
  refine Go.Flo.wp_region (fun w' => ∃ i, w' = W i) 18 [Go.Flo.Spec.row w1.heap.size 3 #[.int .i32 ax, .int .i32 ay, .int .i32 az, .int .i32 bx, .int .i32 by_, .int .i32 bz, .int .i32 cx, .int .i32 cy, .int .i32 cz] 43, Go.Flo.Spec.is (.agg #[.int .i32 (Fx.sat (ax + bx + cx)), .int .i32 (Fx.sat (ay + by_ + cy)), .int .i32 (Fx.sat (az + bz + cz))]), Go.Flo.Spec.is (.agg #[.int .i32 (Fx.sat (ax - bx)), .int .i32 (Fx.sat (ay - by_)), .int .i32 (Fx.sat (az - bz))]), Go.Flo.Spec.is (.agg #[.int .i32 (Fx.sat (-ax)), .int .i32 (Fx.sat (-ay)), .int .i32 (Fx.sat (-az))]), Go.Flo.Spec.is (.agg #[.int .i32 (Fx.sat (ax * k / Fx.pw q)), .int .i32 (Fx.sat (ay * k / Fx.pw q)), .int .i32 (Fx.sat (az * k / Fx.pw q))]), Go.Flo.Spec.ptr w1.heap.size #[.int .i32 0, .int .i32 0, .int .i32 0] 43, Go.Flo.Spec.ptr w1.heap.size #[.int .i32 0, .int .i32 0, .int .i32 0] 43, Go.Flo.Spec.ptr w1.heap.size #[.int .i32 0, .int .i32 0, .int .i32 0] 43, Go.Flo.Spec.ptr w1.heap.size #[.int .i32 0, .int .i32 0, .int .i32 0] 43] (by kernel_rfl) (by kernel_rfl) (by decide) (by rintro _ w' ⟨i, rfl⟩ hb; exact HJ.out _ ((HW.out i).trans (hb.mono (HW.out i).size))) (HJ.out _ (Below.refl _ _).drew) ?_
  simp only [Go.Flo.pair, Go.Mix.calm, List.take, List.drop, if_true, Bool.false_eq_true, if_false, Nat.reduceAdd, Nat.reduceSub]
  have e0 : ∀ i, (W i).cell? ⟨w.heap.size, 0, none⟩ = some (.int .i32 ax) := fun i => ((HW.out i).cell (p := ⟨w.heap.size, 0, none⟩) (by show w.heap.size < _; omega)).trans hA.c0
  have e1 : ∀ i, (W i).cell? ⟨w.heap.size, 1, none⟩ = some (.int .i32 ay) := fun i => ((HW.out i).cell (p := ⟨w.heap.size, 1, none⟩) (by show w.heap.size < _; omega)).trans hA.c1
  have e2 : ∀ i, (W i).cell? ⟨w.heap.size, 2, none⟩ = some (.int .i32 az) := fun i => ((HW.out i).cell (p := ⟨w.heap.size, 2, none⟩) (by show w.heap.size < _; omega)).trans hA.c2
  have b0 : ∀ i, (W i).cell? ⟨w.heap.size + 1, 0, none⟩ = some (.int .i32 bx) := fun i => ((HW.out i).cell (p := ⟨w.heap.size + 1, 0, none⟩) (by show w.heap.size + 1 < _; omega)).trans hA2.c0
  have b1 : ∀ i, (W i).cell? ⟨w.heap.size + 1, 1, none⟩ = some (.int .i32 by_) := fun i => ((HW.out i).cell (p := ⟨w.heap.size + 1, 1, none⟩) (by show w.heap.size + 1 < _; omega)).trans hA2.c1
  have b2 : ∀ i, (W i).cell? ⟨w.heap.size + 1, 2, none⟩ = some (.int .i32 bz) := fun i => ((HW.out i).cell (p := ⟨w.heap.size + 1, 2, none⟩) (by show w.heap.size + 1 < _; omega)).trans hA2.c2
  have c0 : ∀ i, (W i).cell? ⟨w.heap.size + 2, 0, none⟩ = some (.int .i32 cx) := fun i => ((HW.out i).cell (p := ⟨w.heap.size + 2, 0, none⟩) (by show w.heap.size + 2 < _; omega)).trans hA3.c0
  have c1 : ∀ i, (W i).cell? ⟨w.heap.size + 2, 1, none⟩ = some (.int .i32 cy) := fun i => ((HW.out i).cell (p := ⟨w.heap.size + 2, 1, none⟩) (by show w.heap.size + 2 < _; omega)).trans hA3.c1
  have c2 : ∀ i, (W i).cell? ⟨w.heap.size + 2, 2, none⟩ = some (.int .i32 cz) := fun i => ((HW.out i).cell (p := ⟨w.heap.size + 2, 2, none⟩) (by show w.heap.size + 2 < _; omega)).trans hA3.c2
  (repeat (first | (refine Go.Flo.fw_calm rfl ?_ (fun K hK => ?_); (first | exact Go.Mix.wanted_none rfl | exact Go.Mix.wanted_tt rfl rfl rfl | exact Go.Mix.wanted_ff rfl rfl rfl); go_big_quiet_op; refine hK _ ?_; clear hK K) | (refine Go.Flo.fw_skip ?_ (fun K hK => ?_); (first | exact Go.Mix.wanted_tf rfl rfl rfl | exact Go.Mix.wanted_ft rfl rfl rfl); go_simp; refine hK _ ?_; clear hK K) | (refine Go.Flo.fw_any rfl ?_ (fun K hK => ?_); (first | exact Go.Mix.wanted_none rfl | exact Go.Mix.wanted_tt rfl rfl rfl | exact Go.Mix.wanted_ff rfl rfl rfl); go_simp; (try (go_ints; try go_simp)); refine hK _ ?_; clear hK K)))
  refine Go.Flo.fw_loud rfl ?_ rfl (by simp) (fun wv hwv hav K hK => ?_) (fun v hv K hK => ?_)
  · (first | exact Go.Mix.wanted_none rfl | exact Go.Mix.wanted_tt rfl rfl rfl | exact Go.Mix.wanted_ff rfl rfl rfl)
  · obtain ⟨iv, rfl⟩ := hwv
    (first | go_big_op | go_simp)
    refine hK _ _ (Go.Flo.owes_row (HW.out iv).size)
  obtain ⟨g0, hg0, rfl⟩ := hv.row
  go_simp
  refine hK _ ?_
  clear hK K hv
  refine Go.Flo.fw_loud rfl ?_ rfl (by simp) (fun wv hwv hav K hK => ?_) (fun v hv K hK => ?_)
  · (first | exact Go.Mix.wanted_none rfl | exact Go.Mix.wanted_tt rfl rfl rfl | exact Go.Mix.wanted_ff rfl rfl rfl)
  · obtain ⟨iv, rfl⟩ := hwv
    have hbv := HW.out iv
    (first | go_big_op | go_simp)
    have hs := nine_heap (Go.Flo.says_row ((hav 23 (by decide +kernel)).2 rfl).1)
    go_at_call 24
    refine (vAdd3_at g0 ax ay az bx by_ bz cx cy cz _ hs axlo axhi aylo ayhi azlo azhi bxlo bxhi by_lo by_hi bzlo bzhi cxlo cxhi cylo cyhi czlo czhi).mono ?_
    rintro e w' ⟨rfl, hbb⟩
    exact hK _ _ (Go.Flo.owes_is _ rfl hbb)
  obtain rfl := hv.is
  go_simp
  refine hK _ ?_
  clear hK K hv
  (repeat (first | (refine Go.Flo.fw_calm rfl ?_ (fun K hK => ?_); (first | exact Go.Mix.wanted_none rfl | exact Go.Mix.wanted_tt rfl rfl rfl | exact Go.Mix.wanted_ff rfl rfl rfl); go_big_quiet_op; refine hK _ ?_; clear hK K) | (refine Go.Flo.fw_skip ?_ (fun K hK => ?_); (first | exact Go.Mix.wanted_tf rfl rfl rfl | exact Go.Mix.wanted_ft rfl rfl rfl); go_simp; refine hK _ ?_; clear hK K) | (refine Go.Flo.fw_any rfl ?_ (fun K hK => ?_); (first | exact Go.Mix.wanted_none rfl | exact Go.Mix.wanted_tt rfl rfl rfl | exact Go.Mix.wanted_ff rfl rfl rfl); go_simp; (try (go_ints; try go_simp)); refine hK _ ?_; clear hK K)))
  refine Go.Flo.fw_loud rfl ?_ rfl (by simp) (fun wv hwv hav K hK => ?_) (fun v hv K hK => ?_)
  · (first | exact Go.Mix.wanted_none rfl | exact Go.Mix.wanted_tt rfl rfl rfl | exact Go.Mix.wanted_ff rfl rfl rfl)
  · obtain ⟨iv, rfl⟩ := hwv
    have hbv := HW.out iv
    (first | go_big_op | go_simp)
    go_at_call 25
    refine (vSub_any ax ay az bx by_ bz _ axlo axhi aylo ayhi azlo azhi bxlo bxhi by_lo by_hi bzlo bzhi).mono ?_
    rintro e w' ⟨rfl, hbb⟩
    exact hK _ _ (Go.Flo.owes_is _ rfl hbb)
  obtain rfl := hv.is
  go_simp
  refine hK _ ?_
  clear hK K hv
  (repeat (first | (refine Go.Flo.fw_calm rfl ?_ (fun K hK => ?_); (first | exact Go.Mix.wanted_none rfl | exact Go.Mix.wanted_tt rfl rfl rfl | exact Go.Mix.wanted_ff rfl rfl rfl); go_big_quiet_op; refine hK _ ?_; clear hK K) | (refine Go.Flo.fw_skip ?_ (fun K hK => ?_); (first | exact Go.Mix.wanted_tf rfl rfl rfl | exact Go.Mix.wanted_ft rfl rfl rfl); go_simp; refine hK _ ?_; clear hK K) | (refine Go.Flo.fw_any rfl ?_ (fun K hK => ?_); (first | exact Go.Mix.wanted_none rfl | exact Go.Mix.wanted_tt rfl rfl rfl | exact Go.Mix.wanted_ff rfl rfl rfl); go_simp; (try (go_ints; try go_simp)); refine hK _ ?_; clear hK K)))
  refine Go.Flo.fw_loud rfl ?_ rfl (by simp) (fun wv hwv hav K hK => ?_) (fun v hv K hK => ?_)
  · (first | exact Go.Mix.wanted_none rfl | exact Go.Mix.wanted_tt rfl rfl rfl | exact Go.Mix.wanted_ff rfl rfl rfl)
  · obtain ⟨iv, rfl⟩ := hwv
    have hbv := HW.out iv
    (first | go_big_op | go_simp)
    go_at_call 26
    refine (vNeg_any ax ay az _ axlo axhi aylo ayhi azlo azhi).mono ?_
    rintro e w' ⟨rfl, hbb⟩
    exact hK _ _ (Go.Flo.owes_is _ rfl hbb)
  obtain rfl := hv.is
  go_simp
  refine hK _ ?_
  clear hK K hv
  (repeat (first | (refine Go.Flo.fw_calm rfl ?_ (fun K hK => ?_); (first | exact Go.Mix.wanted_none rfl | exact Go.Mix.wanted_tt rfl rfl rfl | exact Go.Mix.wanted_ff rfl rfl rfl); go_big_quiet_op; refine hK _ ?_; clear hK K) | (refine Go.Flo.fw_skip ?_ (fun K hK => ?_); (first | exact Go.Mix.wanted_tf rfl rfl rfl | exact Go.Mix.wanted_ft rfl rfl rfl); go_simp; refine hK _ ?_; clear hK K) | (refine Go.Flo.fw_any rfl ?_ (fun K hK => ?_); (first | exact Go.Mix.wanted_none rfl | exact Go.Mix.wanted_tt rfl rfl rfl | exact Go.Mix.wanted_ff rfl rfl rfl); go_simp; (try (go_ints; try go_simp)); refine hK _ ?_; clear hK K)))
  refine Go.Flo.fw_loud rfl ?_ rfl (by simp) (fun wv hwv hav K hK => ?_) (fun v hv K hK => ?_)
  · (first | exact Go.Mix.wanted_none rfl | exact Go.Mix.wanted_tt rfl rfl rfl | exact Go.Mix.wanted_ff rfl rfl rfl)
  · obtain ⟨iv, rfl⟩ := hwv
    have hbv := HW.out iv
    (first | go_big_op | go_simp)
    go_at_call 27
    refine (vScale_any ax ay az k q _ axlo axhi aylo ayhi azlo azhi klo khi).mono ?_
    rintro e w' ⟨rfl, hbb⟩
    exact hK _ _ (Go.Flo.owes_is _ rfl hbb)
  obtain rfl := hv.is
  go_simp
  refine hK _ ?_
  clear hK K hv
  refine Go.Flo.fw_loud rfl ?_ rfl (by simp) (fun wv hwv hav K hK => ?_) (fun v hv K hK => ?_)
  · (first | exact Go.Mix.wanted_none rfl | exact Go.Mix.wanted_tt rfl rfl rfl | exact Go.Mix.wanted_ff rfl rfl rfl)
  · obtain ⟨iv, rfl⟩ := hwv
    (first | go_big_op | go_simp)
    refine hK _ _ (Go.Flo.owes_ptr (HW.out iv).size)
  obtain ⟨g1, hg1, rfl, hng1⟩ := hv.ptr rfl
  go_simp
  refine hK _ ?_
  clear hK K hv
  refine Go.Flo.fw_loud rfl ?_ rfl (by simp) (fun wv hwv hav K hK => ?_) (fun v hv K hK => ?_)
  · (first | exact Go.Mix.wanted_none rfl | exact Go.Mix.wanted_tt rfl rfl rfl | exact Go.Mix.wanted_ff rfl rfl rfl)
  · obtain ⟨iv, rfl⟩ := hwv
    (first | go_big_op | go_simp)
    refine hK _ _ (Go.Flo.owes_ptr (HW.out iv).size)
  obtain ⟨g2, hg2, rfl, hng2⟩ := hv.ptr rfl
  go_simp
  refine hK _ ?_
  clear hK K hv
  refine Go.Flo.fw_loud rfl ?_ rfl (by simp) (fun wv hwv hav K hK => ?_) (fun v hv K hK => ?_)
  · (first | exact Go.Mix.wanted_none rfl | exact Go.Mix.wanted_tt rfl rfl rfl | exact Go.Mix.wanted_ff rfl rfl rfl)
  · obtain ⟨iv, rfl⟩ := hwv
    (first | go_big_op | go_simp)
    refine hK _ _ (Go.Flo.owes_ptr (HW.out iv).size)
  obtain ⟨g3, hg3, rfl, hng3⟩ := hv.ptr rfl
  go_simp
  refine hK _ ?_
  clear hK K hv
  refine Go.Flo.fw_loud rfl ?_ rfl (by simp) (fun wv hwv hav K hK => ?_) (fun v hv K hK => ?_)
  · (first | exact Go.Mix.wanted_none rfl | exact Go.Mix.wanted_tt rfl rfl rfl | exact Go.Mix.wanted_ff rfl rfl rfl)
  · obtain ⟨iv, rfl⟩ := hwv
    (first | go_big_op | go_simp)
    refine hK _ _ (Go.Flo.owes_ptr (HW.out iv).size)
  obtain ⟨g4, hg4, rfl, hng4⟩ := hv.ptr rfl
  go_simp
  refine hK _ ?_
  clear hK K hv
  have n21 : g2 ≠ g1 := fun e => hng2 (e ▸ .inl rfl)
  have n31 : g3 ≠ g1 := fun e => hng3 (e ▸ .inr (.inl rfl))
  have n32 : g3 ≠ g2 := fun e => hng3 (e ▸ .inl rfl)
  have n41 : g4 ≠ g1 := fun e => hng4 (e ▸ .inr (.inr (.inl rfl)))
  have n42 : g4 ≠ g2 := fun e => hng4 (e ▸ .inr (.inl rfl))
  have n43 : g4 ≠ g3 := fun e => hng4 (e ▸ .inl rfl)
  refine Go.Flo.fw_nil ?_
  intro w2 hww2 hfw2 huw2
  obtain ⟨iend, hiend⟩ := hww2
  have hbw2 := HW.out iend
  rw [← hiend] at hbw2
  clear hiend iend huw2
  have h4 := Go.Flo.says_ptr ((hfw2 (some 14)).2 rfl).1
  have h3 := Go.Flo.says_ptr ((hfw2 (some 13)).1.2 rfl).1
  have h2 := Go.Flo.says_ptr ((hfw2 (some 12)).1.1.2 rfl).1
  have h1 := Go.Flo.says_ptr ((hfw2 (some 11)).1.1.1.2 rfl).1
  clear hfw2 e0 e1 e2 b0 b1 b2 c0 c1 c2 hng1 hng2 hng3 hng4 HJ
  obtain ⟨⟨p10, p11, p12⟩, f1⟩ := three_heap h1
  obtain ⟨⟨p20, p21, p22⟩, f2⟩ := three_heap h2
  obtain ⟨⟨p30, p31, p32⟩, f3⟩ := three_heap h3
  obtain ⟨⟨p40, p41, p42⟩, f4⟩ := three_heap h4
  have f10 := f1 0
  have f11 := f1 1
  have f12 := f1 2
  have f20 := f2 0
  have f21 := f2 1
  have f22 := f2 2
  have f30 := f3 0
  have f31 := f3 1
  have f32 := f3 2
  have f40 := f4 0
  have f41 := f4 1
  have f42 := f4 2
  have hB2 := hB.trans (hbw2.mono hB.size)
  have hA := hA.below hbw2 (by omega)
  have hA2 := hA2.below hbw2 (by omega)
  have hA3 := hA3.below hbw2 (by omega)
  clear h1 h2 h3 h4 f1 f2 f3 f4 hB hbw2 HW
  trace "stores"
  refine Go.Flo.tw_step ?_ (fun K hK => ?_)
  · (first | exact Go.Mix.wanted_none rfl | exact Go.Mix.wanted_tt rfl rfl rfl | exact Go.Mix.wanted_ff rfl rfl rfl)
  (first | go_big_op | go_simp)
  refine hK _ _ ?_
  clear hK K
  refine Go.Flo.tw_step ?_ (fun K hK => ?_)
  · (first | exact Go.Mix.wanted_none rfl | exact Go.Mix.wanted_tt rfl rfl rfl | exact Go.Mix.wanted_ff rfl rfl rfl)
  (first | go_big_op | go_simp)
  refine hK _ _ ?_
  clear hK K
  refine Go.Flo.tw_step ?_ (fun K hK => ?_)
  · (first | exact Go.Mix.wanted_none rfl | exact Go.Mix.wanted_tt rfl rfl rfl | exact Go.Mix.wanted_ff rfl rfl rfl)
  (first | go_big_op | go_simp)
  refine hK _ _ ?_
  clear hK K
  refine Go.Flo.tw_step ?_ (fun K hK => ?_)
  · (first | exact Go.Mix.wanted_none rfl | exact Go.Mix.wanted_tt rfl rfl rfl | exact Go.Mix.wanted_ff rfl rfl rfl)
  (first | go_big_op | go_simp)
  refine hK _ _ ?_
  clear hK K
  refine Go.Flo.tw_nil ?_
  obtain ⟨w3, hw3⟩ : ∃ w3, w3 = ((((((((((((w2.setCell ⟨g1, 0, none⟩ (.int .i32 (Fx.sat (ax + bx + cx)))).setCell ⟨g1, 1, none⟩ (.int .i32 (Fx.sat (ay + by_ + cy)))).setCell ⟨g1, 2, none⟩ (.int .i32 (Fx.sat (az + bz + cz)))).setCell ⟨g2, 0, none⟩ (.int .i32 (Fx.sat (ax - bx)))).setCell ⟨g2, 1, none⟩ (.int .i32 (Fx.sat (ay - by_)))).setCell ⟨g2, 2, none⟩ (.int .i32 (Fx.sat (az - bz)))).setCell ⟨g3, 0, none⟩ (.int .i32 (Fx.sat (-ax)))).setCell ⟨g3, 1, none⟩ (.int .i32 (Fx.sat (-ay)))).setCell ⟨g3, 2, none⟩ (.int .i32 (Fx.sat (-az)))).setCell ⟨g4, 0, none⟩ (.int .i32 (Fx.sat (ax * k / Fx.pw q)))).setCell ⟨g4, 1, none⟩ (.int .i32 (Fx.sat (ay * k / Fx.pw q)))).setCell ⟨g4, 2, none⟩ (.int .i32 (Fx.sat (az * k / Fx.pw q)))) := ⟨_, rfl⟩
  have qa0 := hA.c0
  have qa1 := hA.c1
  have qa2 := hA.c2
  have qb0 := hA2.c0
  have qb1 := hA2.c1
  have qb2 := hA2.c2
  have qc0 := hA3.c0
  have qc1 := hA3.c1
  have qc2 := hA3.c2
  have l0 : w.heap.size + 3 ≤ g1 := by omega
  have l1 : w.heap.size + 3 ≤ g2 := by omega
  have l2 : w.heap.size + 3 ≤ g3 := by omega
  have l3 : w.heap.size + 3 ≤ g4 := by omega
  have hP1 : Three w3 .i32 g1 (Fx.sat (ax + bx + cx)) (Fx.sat (ay + by_ + cy)) (Fx.sat (az + bz + cz)) := by rw [hw3]; exact ⟨by go_simp, by go_simp, by go_simp⟩
  have hP2 : Three w3 .i32 g2 (Fx.sat (ax - bx)) (Fx.sat (ay - by_)) (Fx.sat (az - bz)) := by rw [hw3]; exact ⟨by go_simp, by go_simp, by go_simp⟩
  have hP3 : Three w3 .i32 g3 (Fx.sat (-ax)) (Fx.sat (-ay)) (Fx.sat (-az)) := by rw [hw3]; exact ⟨by go_simp, by go_simp, by go_simp⟩
  have hP4 : Three w3 .i32 g4 (Fx.sat (ax * k / Fx.pw q)) (Fx.sat (ay * k / Fx.pw q)) (Fx.sat (az * k / Fx.pw q)) := by rw [hw3]; exact ⟨by go_simp, by go_simp, by go_simp⟩
  have hA' : Three w3 .i32 w.heap.size ax ay az := by rw [hw3]; exact ⟨by go_simp, by go_simp, by go_simp⟩
  have hA2' : Three w3 .i32 (w.heap.size + 1) bx by_ bz := by rw [hw3]; exact ⟨by go_simp, by go_simp, by go_simp⟩
  have hA3' : Three w3 .i32 (w.heap.size + 2) cx cy cz := by rw [hw3]; exact ⟨by go_simp, by go_simp, by go_simp⟩
  have hB3 : Below w.heap.size w w3 := by rw [hw3]; repeat' (first | (with_reducible exact Below.refl _ _) | (with_reducible assumption) | (with_reducible refine Below.setCell ?_ ?_ _) | (with_reducible refine Below.alloc ?_ ?_ _) | (with_reducible refine Below.drew ?_) | (with_reducible refine Below.drawsN ?_ _) | go_size)
  rw [← hw3]
  have k1 := World.block_lt_of_cell? w3 _ hP1.c0
  have k2 := World.block_lt_of_cell? w3 _ hP2.c0
  have hs3 : w.heap.size + 3 ≤ w3.heap.size := by have h : g1 < w3.heap.size := k1; omega
  have k3 := World.block_lt_of_cell? w3 _ hP3.c0
  have k4 := World.block_lt_of_cell? w3 _ hP4.c0
  have mx := Fx.mul_bd ax k 2147483648 2147483648 (by omega) (by omega) (by omega) (by omega)
  have my := Fx.mul_bd ay k 2147483648 2147483648 (by omega) (by omega) (by omega) (by omega)
  have mz := Fx.mul_bd az k 2147483648 2147483648 (by omega) (by omega) (by omega) (by omega)
  have pp0 := Fx.pw_pos q
  have pp1 := Fx.pw_hi q
  have dx := Fx.ediv_bd (ax * k) (Fx.pw q) 4611686018427387904 pp0 (by omega) (by omega)
  have dy := Fx.ediv_bd (ay * k) (Fx.pw q) 4611686018427387904 pp0 (by omega) (by omega)
  have dz := Fx.ediv_bd (az * k) (Fx.pw q) 4611686018427387904 pp0 (by omega) (by omega)
  clear hw3 qa0 qa1 qa2 qb0 qb1 qb2 qc0 qc1 qc2 hA hA2 hA3 p10 p11 p12 p20 p21 p22 p30 p31 p32 p40 p41 p42 f10 f11 f12 f20 f21 f22 f30 f31 f32 f40 f41 f42 hB2 n21 n31 n32 n41 n42 n43 hne hz1
  clear W I
  go_wp2
  go_loopw [34] (fun i wr => (i = .int .i64 0 ∨ i = .int .i64 1 ∨ i = .int .i64 2 ∨ i = .int .i64 3) ∧ Below w3.heap.size w3 wr) (fun i _ => 3 - (intOf i).toNat)
  case atStart => exact ⟨.inl rfl, Below.refl _ _⟩
  case round =>
    obtain ⟨hi, hI⟩ := hrel
    rcases hi with rfl | rfl | rfl | rfl
    · go_wp2
      obtain ⟨I, W, hne, hWI, hIW⟩ := Go.Mix.family (fun v => Below w3.heap.size w3 v) hI
      have HJ := Lib.hid hIW
      have HW := Lib.hid hWI
      clear hWI hIW
      refine Go.Flo.wp_region (fun w' => ∃ i, w' = W i) 10 [] (by kernel_rfl) (by kernel_rfl) (by decide) (by rintro _ w' ⟨i, rfl⟩ hb; exact HJ.out _ ((HW.out i).trans (hb.mono (HW.out i).size))) (HJ.out _ (Below.drew hI)) ?_
      simp only [Go.Flo.pair, Go.Mix.calm, List.take, List.drop, if_true, Bool.false_eq_true, if_false, Nat.reduceAdd, Nat.reduceSub]
      have u0 : ∀ i, (W i).cell? ⟨w.heap.size, 0, none⟩ = some (.int .i32 ax) := fun i => ((HW.out i).cell (p := ⟨w.heap.size, 0, none⟩) (by show w.heap.size < _; omega)).trans hA'.c0
      have u1 : ∀ i, (W i).cell? ⟨w.heap.size + 1, 0, none⟩ = some (.int .i32 bx) := fun i => ((HW.out i).cell (p := ⟨w.heap.size + 1, 0, none⟩) (by show w.heap.size + 1 < _; omega)).trans hA2'.c0
      (repeat (first | (refine Go.Flo.fw_calm rfl ?_ (fun K hK => ?_); (first | exact Go.Mix.wanted_none rfl | exact Go.Mix.wanted_tt rfl rfl rfl | exact Go.Mix.wanted_ff rfl rfl rfl); go_big_quiet_op; refine hK _ ?_; clear hK K) | (refine Go.Flo.fw_skip ?_ (fun K hK => ?_); (first | exact Go.Mix.wanted_tf rfl rfl rfl | exact Go.Mix.wanted_ft rfl rfl rfl); go_simp; refine hK _ ?_; clear hK K) | (refine Go.Flo.fw_any rfl ?_ (fun K hK => ?_); (first | exact Go.Mix.wanted_none rfl | exact Go.Mix.wanted_tt rfl rfl rfl | exact Go.Mix.wanted_ff rfl rfl rfl); go_simp; (try (go_ints; try go_simp)); refine hK _ ?_; clear hK K)))
      refine Go.Flo.fw_nil ?_
      intro w5 hww5 hfw5 huw5
      refine Go.Flo.tw_nil ?_
      obtain ⟨iend, hiend⟩ := hww5
      have hbw5 := HW.out iend
      rw [← hiend] at hbw5
      clear hiend iend huw5
      clear hfw5 u0 u1 HJ HW hne
      clear W I
      go_wp2
      obtain ⟨I, W, hne, hWI, hIW⟩ := Go.Mix.family (fun v => Below w3.heap.size w3 v) hbw5
      have HJ := Lib.hid hIW
      have HW := Lib.hid hWI
      clear hWI hIW
      refine Go.Flo.wp_region (fun w' => ∃ i, w' = W i) 46 [Go.Flo.Spec.is (.int .i32 (Fx.sat (ax + bx + cx))), Go.Flo.Spec.is (.int .i32 (Fx.sat (ax - bx))), Go.Flo.Spec.is (.int .i32 (Fx.sat (-ax))), Go.Flo.Spec.is (.int .i64 (Fx.pw q)), Go.Flo.Spec.is (.int .i64 (ax * k / Fx.pw q)), Go.Flo.Spec.is (.int .i32 (Fx.sat (ax * k / Fx.pw q)))] (by kernel_rfl) (by kernel_rfl) (by decide) (by rintro _ w' ⟨i, rfl⟩ hb; exact HJ.out _ ((HW.out i).trans (hb.mono (HW.out i).size))) (HJ.out _ (Below.drew hbw5)) ?_
      simp only [Go.Flo.pair, Go.Mix.calm, List.take, List.drop, if_true, Bool.false_eq_true, if_false, Nat.reduceAdd, Nat.reduceSub]
      have u0 : ∀ i, (W i).cell? ⟨g1, 0, none⟩ = _ := fun i => ((HW.out i).cell (p := ⟨g1, 0, none⟩) k1).trans hP1.c0
      have u1 : ∀ i, (W i).cell? ⟨g2, 0, none⟩ = _ := fun i => ((HW.out i).cell (p := ⟨g2, 0, none⟩) k2).trans hP2.c0
      have u2 : ∀ i, (W i).cell? ⟨g3, 0, none⟩ = _ := fun i => ((HW.out i).cell (p := ⟨g3, 0, none⟩) k3).trans hP3.c0
      have u3 : ∀ i, (W i).cell? ⟨g4, 0, none⟩ = _ := fun i => ((HW.out i).cell (p := ⟨g4, 0, none⟩) k4).trans hP4.c0
      have u4 : ∀ i, (W i).cell? ⟨w.heap.size + 2, 0, none⟩ = some (.int .i32 cx) := fun i => ((HW.out i).cell (p := ⟨w.heap.size + 2, 0, none⟩) (by show w.heap.size + 2 < _; omega)).trans hA3'.c0
      (repeat (first | (refine Go.Flo.fw_calm rfl ?_ (fun K hK => ?_); (first | exact Go.Mix.wanted_none rfl | exact Go.Mix.wanted_tt rfl rfl rfl | exact Go.Mix.wanted_ff rfl rfl rfl); go_big_quiet_op; refine hK _ ?_; clear hK K) | (refine Go.Flo.fw_skip ?_ (fun K hK => ?_); (first | exact Go.Mix.wanted_tf rfl rfl rfl | exact Go.Mix.wanted_ft rfl rfl rfl); go_simp; refine hK _ ?_; clear hK K) | (refine Go.Flo.fw_any rfl ?_ (fun K hK => ?_); (first | exact Go.Mix.wanted_none rfl | exact Go.Mix.wanted_tt rfl rfl rfl | exact Go.Mix.wanted_ff rfl rfl rfl); go_simp; (try (go_ints; try go_simp)); refine hK _ ?_; clear hK K)))
      refine Go.Flo.fw_loud rfl ?_ rfl (by simp) (fun wv hwv hav K hK => ?_) (fun v hv K hK => ?_)
      · (first | exact Go.Mix.wanted_none rfl | exact Go.Mix.wanted_tt rfl rfl rfl | exact Go.Mix.wanted_ff rfl rfl rfl)
      · obtain ⟨iv, rfl⟩ := hwv
        have hbv := HW.out iv
        (first | go_big_op | go_simp)
        go_at_call 28
        refine (rSat_any (ax + bx + cx) _ (by omega) (by omega)).mono ?_
        rintro e w' ⟨rfl, rfl⟩
        exact hK _ _ (Go.Flo.owes_is _ rfl (Below.refl _ _))
      obtain rfl := hv.is
      go_simp
      refine hK _ ?_
      clear hK K hv
      (repeat (first | (refine Go.Flo.fw_calm rfl ?_ (fun K hK => ?_); (first | exact Go.Mix.wanted_none rfl | exact Go.Mix.wanted_tt rfl rfl rfl | exact Go.Mix.wanted_ff rfl rfl rfl); go_big_quiet_op; refine hK _ ?_; clear hK K) | (refine Go.Flo.fw_skip ?_ (fun K hK => ?_); (first | exact Go.Mix.wanted_tf rfl rfl rfl | exact Go.Mix.wanted_ft rfl rfl rfl); go_simp; refine hK _ ?_; clear hK K) | (refine Go.Flo.fw_any rfl ?_ (fun K hK => ?_); (first | exact Go.Mix.wanted_none rfl | exact Go.Mix.wanted_tt rfl rfl rfl | exact Go.Mix.wanted_ff rfl rfl rfl); go_simp; (try (go_ints; try go_simp)); refine hK _ ?_; clear hK K)))
      refine Go.Flo.fw_loud rfl ?_ rfl (by simp) (fun wv hwv hav K hK => ?_) (fun v hv K hK => ?_)
      · (first | exact Go.Mix.wanted_none rfl | exact Go.Mix.wanted_tt rfl rfl rfl | exact Go.Mix.wanted_ff rfl rfl rfl)
      · obtain ⟨iv, rfl⟩ := hwv
        have hbv := HW.out iv
        (first | go_big_op | go_simp)
        go_at_call 28
        refine (rSat_any (ax - bx) _ (by omega) (by omega)).mono ?_
        rintro e w' ⟨rfl, rfl⟩
        exact hK _ _ (Go.Flo.owes_is _ rfl (Below.refl _ _))
      obtain rfl := hv.is
      go_simp
      refine hK _ ?_
      clear hK K hv
      (repeat (first | (refine Go.Flo.fw_calm rfl ?_ (fun K hK => ?_); (first | exact Go.Mix.wanted_none rfl | exact Go.Mix.wanted_tt rfl rfl rfl | exact Go.Mix.wanted_ff rfl rfl rfl); go_big_quiet_op; refine hK _ ?_; clear hK K) | (refine Go.Flo.fw_skip ?_ (fun K hK => ?_); (first | exact Go.Mix.wanted_tf rfl rfl rfl | exact Go.Mix.wanted_ft rfl rfl rfl); go_simp; refine hK _ ?_; clear hK K) | (refine Go.Flo.fw_any rfl ?_ (fun K hK => ?_); (first | exact Go.Mix.wanted_none rfl | exact Go.Mix.wanted_tt rfl rfl rfl | exact Go.Mix.wanted_ff rfl rfl rfl); go_simp; (try (go_ints; try go_simp)); refine hK _ ?_; clear hK K)))
      refine Go.Flo.fw_loud rfl ?_ rfl (by simp) (fun wv hwv hav K hK => ?_) (fun v hv K hK => ?_)
      · (first | exact Go.Mix.wanted_none rfl | exact Go.Mix.wanted_tt rfl rfl rfl | exact Go.Mix.wanted_ff rfl rfl rfl)
      · obtain ⟨iv, rfl⟩ := hwv
        have hbv := HW.out iv
        (first | go_big_op | go_simp)
        go_at_call 28
        refine (rSat_any (-ax) _ (by omega) (by omega)).mono ?_
        rintro e w' ⟨rfl, rfl⟩
        exact hK _ _ (Go.Flo.owes_is _ rfl (Below.refl _ _))
      obtain rfl := hv.is
      go_simp
      refine hK _ ?_
      clear hK K hv
      (repeat (first | (refine Go.Flo.fw_calm rfl ?_ (fun K hK => ?_); (first | exact Go.Mix.wanted_none rfl | exact Go.Mix.wanted_tt rfl rfl rfl | exact Go.Mix.wanted_ff rfl rfl rfl); go_big_quiet_op; refine hK _ ?_; clear hK K) | (refine Go.Flo.fw_skip ?_ (fun K hK => ?_); (first | exact Go.Mix.wanted_tf rfl rfl rfl | exact Go.Mix.wanted_ft rfl rfl rfl); go_simp; refine hK _ ?_; clear hK K) | (refine Go.Flo.fw_any rfl ?_ (fun K hK => ?_); (first | exact Go.Mix.wanted_none rfl | exact Go.Mix.wanted_tt rfl rfl rfl | exact Go.Mix.wanted_ff rfl rfl rfl); go_simp; (try (go_ints; try go_simp)); refine hK _ ?_; clear hK K)))
      refine Go.Flo.fw_loud rfl ?_ rfl (by simp) (fun wv hwv hav K hK => ?_) (fun v hv K hK => ?_)
      · (first | exact Go.Mix.wanted_none rfl | exact Go.Mix.wanted_tt rfl rfl rfl | exact Go.Mix.wanted_ff rfl rfl rfl)
      · obtain ⟨iv, rfl⟩ := hwv
        have hbv := HW.out iv
        (first | go_big_op | go_simp)
        go_at_call 30
        refine (Power_any q _).mono ?_
        rintro e w' ⟨rfl, rfl⟩
        exact hK _ _ (Go.Flo.owes_is _ rfl (Below.refl _ _))
      obtain rfl := hv.is
      go_simp
      refine hK _ ?_
      clear hK K hv
      (repeat (first | (refine Go.Flo.fw_calm rfl ?_ (fun K hK => ?_); (first | exact Go.Mix.wanted_none rfl | exact Go.Mix.wanted_tt rfl rfl rfl | exact Go.Mix.wanted_ff rfl rfl rfl); go_big_quiet_op; refine hK _ ?_; clear hK K) | (refine Go.Flo.fw_skip ?_ (fun K hK => ?_); (first | exact Go.Mix.wanted_tf rfl rfl rfl | exact Go.Mix.wanted_ft rfl rfl rfl); go_simp; refine hK _ ?_; clear hK K) | (refine Go.Flo.fw_any rfl ?_ (fun K hK => ?_); (first | exact Go.Mix.wanted_none rfl | exact Go.Mix.wanted_tt rfl rfl rfl | exact Go.Mix.wanted_ff rfl rfl rfl); go_simp; (try (go_ints; try go_simp)); refine hK _ ?_; clear hK K)))
      refine Go.Flo.fw_loud rfl ?_ rfl (by simp) (fun wv hwv hav K hK => ?_) (fun v hv K hK => ?_)
      · (first | exact Go.Mix.wanted_none rfl | exact Go.Mix.wanted_tt rfl rfl rfl | exact Go.Mix.wanted_ff rfl rfl rfl)
      · obtain ⟨iv, rfl⟩ := hwv
        have hbv := HW.out iv
        (first | go_big_op | go_simp)
        go_at_call 29
        refine (Down_any (ax * k) (Fx.pw q) _ (by omega) (by omega) (by omega) (by omega)).mono ?_
        rintro e w' ⟨rfl, rfl⟩
        exact hK _ _ (Go.Flo.owes_is _ rfl (Below.refl _ _))
      obtain rfl := hv.is
      go_simp
      refine hK _ ?_
      clear hK K hv
      (repeat (first | (refine Go.Flo.fw_calm rfl ?_ (fun K hK => ?_); (first | exact Go.Mix.wanted_none rfl | exact Go.Mix.wanted_tt rfl rfl rfl | exact Go.Mix.wanted_ff rfl rfl rfl); go_big_quiet_op; refine hK _ ?_; clear hK K) | (refine Go.Flo.fw_skip ?_ (fun K hK => ?_); (first | exact Go.Mix.wanted_tf rfl rfl rfl | exact Go.Mix.wanted_ft rfl rfl rfl); go_simp; refine hK _ ?_; clear hK K) | (refine Go.Flo.fw_any rfl ?_ (fun K hK => ?_); (first | exact Go.Mix.wanted_none rfl | exact Go.Mix.wanted_tt rfl rfl rfl | exact Go.Mix.wanted_ff rfl rfl rfl); go_simp; (try (go_ints; try go_simp)); refine hK _ ?_; clear hK K)))
      refine Go.Flo.fw_loud rfl ?_ rfl (by simp) (fun wv hwv hav K hK => ?_) (fun v hv K hK => ?_)
      · (first | exact Go.Mix.wanted_none rfl | exact Go.Mix.wanted_tt rfl rfl rfl | exact Go.Mix.wanted_ff rfl rfl rfl)
      · obtain ⟨iv, rfl⟩ := hwv
        have hbv := HW.out iv
        (first | go_big_op | go_simp)
        go_at_call 28
        refine (rSat_any (ax * k / Fx.pw q) _ (by omega) (by omega)).mono ?_
        rintro e w' ⟨rfl, rfl⟩
        exact hK _ _ (Go.Flo.owes_is _ rfl (Below.refl _ _))
      obtain rfl := hv.is
      go_simp
      refine hK _ ?_
      clear hK K hv
      (repeat (first | (refine Go.Flo.fw_calm rfl ?_ (fun K hK => ?_); (first | exact Go.Mix.wanted_none rfl | exact Go.Mix.wanted_tt rfl rfl rfl | exact Go.Mix.wanted_ff rfl rfl rfl); go_big_quiet_op; refine hK _ ?_; clear hK K) | (refine Go.Flo.fw_skip ?_ (fun K hK => ?_); (first | exact Go.Mix.wanted_tf rfl rfl rfl | exact Go.Mix.wanted_ft rfl rfl rfl); go_simp; refine hK _ ?_; clear hK K) | (refine Go.Flo.fw_any rfl ?_ (fun K hK => ?_); (first | exact Go.Mix.wanted_none rfl | exact Go.Mix.wanted_tt rfl rfl rfl | exact Go.Mix.wanted_ff rfl rfl rfl); go_simp; (try (go_ints; try go_simp)); refine hK _ ?_; clear hK K)))
      refine Go.Flo.fw_nil ?_
      intro w6 hww6 hfw6 huw6
      refine Go.Flo.tw_nil ?_
      obtain ⟨iend, hiend⟩ := hww6
      have hbw6 := HW.out iend
      rw [← hiend] at hbw6
      clear hiend iend huw6
      clear hfw6 u0 u1 u2 u3 u4 HJ HW hne
      clear W I
      go_wp2
      go_roundw
      case rel => exact ⟨.inr (.inl rfl), hbw6⟩
      case measure => simp [intOf]
    · go_wp2
      obtain ⟨I, W, hne, hWI, hIW⟩ := Go.Mix.family (fun v => Below w3.heap.size w3 v) hI
      have HJ := Lib.hid hIW
      have HW := Lib.hid hWI
      clear hWI hIW
      refine Go.Flo.wp_region (fun w' => ∃ i, w' = W i) 10 [] (by kernel_rfl) (by kernel_rfl) (by decide) (by rintro _ w' ⟨i, rfl⟩ hb; exact HJ.out _ ((HW.out i).trans (hb.mono (HW.out i).size))) (HJ.out _ (Below.drew hI)) ?_
      simp only [Go.Flo.pair, Go.Mix.calm, List.take, List.drop, if_true, Bool.false_eq_true, if_false, Nat.reduceAdd, Nat.reduceSub]
      have u0 : ∀ i, (W i).cell? ⟨w.heap.size, 1, none⟩ = some (.int .i32 ay) := fun i => ((HW.out i).cell (p := ⟨w.heap.size, 1, none⟩) (by show w.heap.size < _; omega)).trans hA'.c1
      have u1 : ∀ i, (W i).cell? ⟨w.heap.size + 1, 1, none⟩ = some (.int .i32 by_) := fun i => ((HW.out i).cell (p := ⟨w.heap.size + 1, 1, none⟩) (by show w.heap.size + 1 < _; omega)).trans hA2'.c1
      (repeat (first | (refine Go.Flo.fw_calm rfl ?_ (fun K hK => ?_); (first | exact Go.Mix.wanted_none rfl | exact Go.Mix.wanted_tt rfl rfl rfl | exact Go.Mix.wanted_ff rfl rfl rfl); go_big_quiet_op; refine hK _ ?_; clear hK K) | (refine Go.Flo.fw_skip ?_ (fun K hK => ?_); (first | exact Go.Mix.wanted_tf rfl rfl rfl | exact Go.Mix.wanted_ft rfl rfl rfl); go_simp; refine hK _ ?_; clear hK K) | (refine Go.Flo.fw_any rfl ?_ (fun K hK => ?_); (first | exact Go.Mix.wanted_none rfl | exact Go.Mix.wanted_tt rfl rfl rfl | exact Go.Mix.wanted_ff rfl rfl rfl); go_simp; (try (go_ints; try go_simp)); refine hK _ ?_; clear hK K)))
      refine Go.Flo.fw_nil ?_
      intro w5 hww5 hfw5 huw5
      refine Go.Flo.tw_nil ?_
      obtain ⟨iend, hiend⟩ := hww5
      have hbw5 := HW.out iend
      rw [← hiend] at hbw5
      clear hiend iend huw5
      clear hfw5 u0 u1 HJ HW hne
      clear W I
      go_wp2
      obtain ⟨I, W, hne, hWI, hIW⟩ := Go.Mix.family (fun v => Below w3.heap.size w3 v) hbw5
      have HJ := Lib.hid hIW
      have HW := Lib.hid hWI
      clear hWI hIW
      refine Go.Flo.wp_region (fun w' => ∃ i, w' = W i) 46 [Go.Flo.Spec.is (.int .i32 (Fx.sat (ay + by_ + cy))), Go.Flo.Spec.is (.int .i32 (Fx.sat (ay - by_))), Go.Flo.Spec.is (.int .i32 (Fx.sat (-ay))), Go.Flo.Spec.is (.int .i64 (Fx.pw q)), Go.Flo.Spec.is (.int .i64 (ay * k / Fx.pw q)), Go.Flo.Spec.is (.int .i32 (Fx.sat (ay * k / Fx.pw q)))] (by kernel_rfl) (by kernel_rfl) (by decide) (by rintro _ w' ⟨i, rfl⟩ hb; exact HJ.out _ ((HW.out i).trans (hb.mono (HW.out i).size))) (HJ.out _ (Below.drew hbw5)) ?_
      simp only [Go.Flo.pair, Go.Mix.calm, List.take, List.drop, if_true, Bool.false_eq_true, if_false, Nat.reduceAdd, Nat.reduceSub]
      have u0 : ∀ i, (W i).cell? ⟨g1, 1, none⟩ = _ := fun i => ((HW.out i).cell (p := ⟨g1, 1, none⟩) k1).trans hP1.c1
      have u1 : ∀ i, (W i).cell? ⟨g2, 1, none⟩ = _ := fun i => ((HW.out i).cell (p := ⟨g2, 1, none⟩) k2).trans hP2.c1
      have u2 : ∀ i, (W i).cell? ⟨g3, 1, none⟩ = _ := fun i => ((HW.out i).cell (p := ⟨g3, 1, none⟩) k3).trans hP3.c1
      have u3 : ∀ i, (W i).cell? ⟨g4, 1, none⟩ = _ := fun i => ((HW.out i).cell (p := ⟨g4, 1, none⟩) k4).trans hP4.c1
      have u4 : ∀ i, (W i).cell? ⟨w.heap.size + 2, 1, none⟩ = some (.int .i32 cy) := fun i => ((HW.out i).cell (p := ⟨w.heap.size + 2, 1, none⟩) (by show w.heap.size + 2 < _; omega)).trans hA3'.c1
      (repeat (first | (refine Go.Flo.fw_calm rfl ?_ (fun K hK => ?_); (first | exact Go.Mix.wanted_none rfl | exact Go.Mix.wanted_tt rfl rfl rfl | exact Go.Mix.wanted_ff rfl rfl rfl); go_big_quiet_op; refine hK _ ?_; clear hK K) | (refine Go.Flo.fw_skip ?_ (fun K hK => ?_); (first | exact Go.Mix.wanted_tf rfl rfl rfl | exact Go.Mix.wanted_ft rfl rfl rfl); go_simp; refine hK _ ?_; clear hK K) | (refine Go.Flo.fw_any rfl ?_ (fun K hK => ?_); (first | exact Go.Mix.wanted_none rfl | exact Go.Mix.wanted_tt rfl rfl rfl | exact Go.Mix.wanted_ff rfl rfl rfl); go_simp; (try (go_ints; try go_simp)); refine hK _ ?_; clear hK K)))
      refine Go.Flo.fw_loud rfl ?_ rfl (by simp) (fun wv hwv hav K hK => ?_) (fun v hv K hK => ?_)
      · (first | exact Go.Mix.wanted_none rfl | exact Go.Mix.wanted_tt rfl rfl rfl | exact Go.Mix.wanted_ff rfl rfl rfl)
      · obtain ⟨iv, rfl⟩ := hwv
        have hbv := HW.out iv
        (first | go_big_op | go_simp)
        go_at_call 28
        refine (rSat_any (ay + by_ + cy) _ (by omega) (by omega)).mono ?_
        rintro e w' ⟨rfl, rfl⟩
        exact hK _ _ (Go.Flo.owes_is _ rfl (Below.refl _ _))
      obtain rfl := hv.is
      go_simp
      refine hK _ ?_
      clear hK K hv
      (repeat (first | (refine Go.Flo.fw_calm rfl ?_ (fun K hK => ?_); (first | exact Go.Mix.wanted_none rfl | exact Go.Mix.wanted_tt rfl rfl rfl | exact Go.Mix.wanted_ff rfl rfl rfl); go_big_quiet_op; refine hK _ ?_; clear hK K) | (refine Go.Flo.fw_skip ?_ (fun K hK => ?_); (first | exact Go.Mix.wanted_tf rfl rfl rfl | exact Go.Mix.wanted_ft rfl rfl rfl); go_simp; refine hK _ ?_; clear hK K) | (refine Go.Flo.fw_any rfl ?_ (fun K hK => ?_); (first | exact Go.Mix.wanted_none rfl | exact Go.Mix.wanted_tt rfl rfl rfl | exact Go.Mix.wanted_ff rfl rfl rfl); go_simp; (try (go_ints; try go_simp)); refine hK _ ?_; clear hK K)))
      refine Go.Flo.fw_loud rfl ?_ rfl (by simp) (fun wv hwv hav K hK => ?_) (fun v hv K hK => ?_)
      · (first | exact Go.Mix.wanted_none rfl | exact Go.Mix.wanted_tt rfl rfl rfl | exact Go.Mix.wanted_ff rfl rfl rfl)
      · obtain ⟨iv, rfl⟩ := hwv
        have hbv := HW.out iv
        (first | go_big_op | go_simp)
        go_at_call 28
        refine (rSat_any (ay - by_) _ (by omega) (by omega)).mono ?_
        rintro e w' ⟨rfl, rfl⟩
        exact hK _ _ (Go.Flo.owes_is _ rfl (Below.refl _ _))
      obtain rfl := hv.is
      go_simp
      refine hK _ ?_
      clear hK K hv
      (repeat (first | (refine Go.Flo.fw_calm rfl ?_ (fun K hK => ?_); (first | exact Go.Mix.wanted_none rfl | exact Go.Mix.wanted_tt rfl rfl rfl | exact Go.Mix.wanted_ff rfl rfl rfl); go_big_quiet_op; refine hK _ ?_; clear hK K) | (refine Go.Flo.fw_skip ?_ (fun K hK => ?_); (first | exact Go.Mix.wanted_tf rfl rfl rfl | exact Go.Mix.wanted_ft rfl rfl rfl); go_simp; refine hK _ ?_; clear hK K) | (refine Go.Flo.fw_any rfl ?_ (fun K hK => ?_); (first | exact Go.Mix.wanted_none rfl | exact Go.Mix.wanted_tt rfl rfl rfl | exact Go.Mix.wanted_ff rfl rfl rfl); go_simp; (try (go_ints; try go_simp)); refine hK _ ?_; clear hK K)))
      refine Go.Flo.fw_loud rfl ?_ rfl (by simp) (fun wv hwv hav K hK => ?_) (fun v hv K hK => ?_)
      · (first | exact Go.Mix.wanted_none rfl | exact Go.Mix.wanted_tt rfl rfl rfl | exact Go.Mix.wanted_ff rfl rfl rfl)
      · obtain ⟨iv, rfl⟩ := hwv
        have hbv := HW.out iv
        (first | go_big_op | go_simp)
        go_at_call 28
        refine (rSat_any (-ay) _ (by omega) (by omega)).mono ?_
        rintro e w' ⟨rfl, rfl⟩
        exact hK _ _ (Go.Flo.owes_is _ rfl (Below.refl _ _))
      obtain rfl := hv.is
      go_simp
      refine hK _ ?_
      clear hK K hv
      (repeat (first | (refine Go.Flo.fw_calm rfl ?_ (fun K hK => ?_); (first | exact Go.Mix.wanted_none rfl | exact Go.Mix.wanted_tt rfl rfl rfl | exact Go.Mix.wanted_ff rfl rfl rfl); go_big_quiet_op; refine hK _ ?_; clear hK K) | (refine Go.Flo.fw_skip ?_ (fun K hK => ?_); (first | exact Go.Mix.wanted_tf rfl rfl rfl | exact Go.Mix.wanted_ft rfl rfl rfl); go_simp; refine hK _ ?_; clear hK K) | (refine Go.Flo.fw_any rfl ?_ (fun K hK => ?_); (first | exact Go.Mix.wanted_none rfl | exact Go.Mix.wanted_tt rfl rfl rfl | exact Go.Mix.wanted_ff rfl rfl rfl); go_simp; (try (go_ints; try go_simp)); refine hK _ ?_; clear hK K)))
      refine Go.Flo.fw_loud rfl ?_ rfl (by simp) (fun wv hwv hav K hK => ?_) (fun v hv K hK => ?_)
      · (first | exact Go.Mix.wanted_none rfl | exact Go.Mix.wanted_tt rfl rfl rfl | exact Go.Mix.wanted_ff rfl rfl rfl)
      · obtain ⟨iv, rfl⟩ := hwv
        have hbv := HW.out iv
        (first | go_big_op | go_simp)
        go_at_call 30
        refine (Power_any q _).mono ?_
        rintro e w' ⟨rfl, rfl⟩
        exact hK _ _ (Go.Flo.owes_is _ rfl (Below.refl _ _))
      obtain rfl := hv.is
      go_simp
      refine hK _ ?_
      clear hK K hv
      (repeat (first | (refine Go.Flo.fw_calm rfl ?_ (fun K hK => ?_); (first | exact Go.Mix.wanted_none rfl | exact Go.Mix.wanted_tt rfl rfl rfl | exact Go.Mix.wanted_ff rfl rfl rfl); go_big_quiet_op; refine hK _ ?_; clear hK K) | (refine Go.Flo.fw_skip ?_ (fun K hK => ?_); (first | exact Go.Mix.wanted_tf rfl rfl rfl | exact Go.Mix.wanted_ft rfl rfl rfl); go_simp; refine hK _ ?_; clear hK K) | (refine Go.Flo.fw_any rfl ?_ (fun K hK => ?_); (first | exact Go.Mix.wanted_none rfl | exact Go.Mix.wanted_tt rfl rfl rfl | exact Go.Mix.wanted_ff rfl rfl rfl); go_simp; (try (go_ints; try go_simp)); refine hK _ ?_; clear hK K)))
      refine Go.Flo.fw_loud rfl ?_ rfl (by simp) (fun wv hwv hav K hK => ?_) (fun v hv K hK => ?_)
      · (first | exact Go.Mix.wanted_none rfl | exact Go.Mix.wanted_tt rfl rfl rfl | exact Go.Mix.wanted_ff rfl rfl rfl)
      · obtain ⟨iv, rfl⟩ := hwv
        have hbv := HW.out iv
        (first | go_big_op | go_simp)
        go_at_call 29
        refine (Down_any (ay * k) (Fx.pw q) _ (by omega) (by omega) (by omega) (by omega)).mono ?_
        rintro e w' ⟨rfl, rfl⟩
        exact hK _ _ (Go.Flo.owes_is _ rfl (Below.refl _ _))
      obtain rfl := hv.is
      go_simp
      refine hK _ ?_
      clear hK K hv
      (repeat (first | (refine Go.Flo.fw_calm rfl ?_ (fun K hK => ?_); (first | exact Go.Mix.wanted_none rfl | exact Go.Mix.wanted_tt rfl rfl rfl | exact Go.Mix.wanted_ff rfl rfl rfl); go_big_quiet_op; refine hK _ ?_; clear hK K) | (refine Go.Flo.fw_skip ?_ (fun K hK => ?_); (first | exact Go.Mix.wanted_tf rfl rfl rfl | exact Go.Mix.wanted_ft rfl rfl rfl); go_simp; refine hK _ ?_; clear hK K) | (refine Go.Flo.fw_any rfl ?_ (fun K hK => ?_); (first | exact Go.Mix.wanted_none rfl | exact Go.Mix.wanted_tt rfl rfl rfl | exact Go.Mix.wanted_ff rfl rfl rfl); go_simp; (try (go_ints; try go_simp)); refine hK _ ?_; clear hK K)))
      refine Go.Flo.fw_loud rfl ?_ rfl (by simp) (fun wv hwv hav K hK => ?_) (fun v hv K hK => ?_)
      · (first | exact Go.Mix.wanted_none rfl | exact Go.Mix.wanted_tt rfl rfl rfl | exact Go.Mix.wanted_ff rfl rfl rfl)
      · obtain ⟨iv, rfl⟩ := hwv
        have hbv := HW.out iv
        (first | go_big_op | go_simp)
        go_at_call 28
        refine (rSat_any (ay * k / Fx.pw q) _ (by omega) (by omega)).mono ?_
        rintro e w' ⟨rfl, rfl⟩
        exact hK _ _ (Go.Flo.owes_is _ rfl (Below.refl _ _))
      obtain rfl := hv.is
      go_simp
      refine hK _ ?_
      clear hK K hv
      (repeat (first | (refine Go.Flo.fw_calm rfl ?_ (fun K hK => ?_); (first | exact Go.Mix.wanted_none rfl | exact Go.Mix.wanted_tt rfl rfl rfl | exact Go.Mix.wanted_ff rfl rfl rfl); go_big_quiet_op; refine hK _ ?_; clear hK K) | (refine Go.Flo.fw_skip ?_ (fun K hK => ?_); (first | exact Go.Mix.wanted_tf rfl rfl rfl | exact Go.Mix.wanted_ft rfl rfl rfl); go_simp; refine hK _ ?_; clear hK K) | (refine Go.Flo.fw_any rfl ?_ (fun K hK => ?_); (first | exact Go.Mix.wanted_none rfl | exact Go.Mix.wanted_tt rfl rfl rfl | exact Go.Mix.wanted_ff rfl rfl rfl); go_simp; (try (go_ints; try go_simp)); refine hK _ ?_; clear hK K)))
      refine Go.Flo.fw_nil ?_
      intro w6 hww6 hfw6 huw6
      refine Go.Flo.tw_nil ?_
      obtain ⟨iend, hiend⟩ := hww6
      have hbw6 := HW.out iend
      rw [← hiend] at hbw6
      clear hiend iend huw6
      clear hfw6 u0 u1 u2 u3 u4 HJ HW hne
      clear W I
      go_wp2
      go_roundw
      case rel => exact ⟨.inr (.inr (.inl rfl)), hbw6⟩
      case measure => simp [intOf]
    · go_wp2
      obtain ⟨I, W, hne, hWI, hIW⟩ := Go.Mix.family (fun v => Below w3.heap.size w3 v) hI
      have HJ := Lib.hid hIW
      have HW := Lib.hid hWI
      clear hWI hIW
      refine Go.Flo.wp_region (fun w' => ∃ i, w' = W i) 10 [] (by kernel_rfl) (by kernel_rfl) (by decide) (by rintro _ w' ⟨i, rfl⟩ hb; exact HJ.out _ ((HW.out i).trans (hb.mono (HW.out i).size))) (HJ.out _ (Below.drew hI)) ?_
      simp only [Go.Flo.pair, Go.Mix.calm, List.take, List.drop, if_true, Bool.false_eq_true, if_false, Nat.reduceAdd, Nat.reduceSub]
      have u0 : ∀ i, (W i).cell? ⟨w.heap.size, 2, none⟩ = some (.int .i32 az) := fun i => ((HW.out i).cell (p := ⟨w.heap.size, 2, none⟩) (by show w.heap.size < _; omega)).trans hA'.c2
      have u1 : ∀ i, (W i).cell? ⟨w.heap.size + 1, 2, none⟩ = some (.int .i32 bz) := fun i => ((HW.out i).cell (p := ⟨w.heap.size + 1, 2, none⟩) (by show w.heap.size + 1 < _; omega)).trans hA2'.c2
      (repeat (first | (refine Go.Flo.fw_calm rfl ?_ (fun K hK => ?_); (first | exact Go.Mix.wanted_none rfl | exact Go.Mix.wanted_tt rfl rfl rfl | exact Go.Mix.wanted_ff rfl rfl rfl); go_big_quiet_op; refine hK _ ?_; clear hK K) | (refine Go.Flo.fw_skip ?_ (fun K hK => ?_); (first | exact Go.Mix.wanted_tf rfl rfl rfl | exact Go.Mix.wanted_ft rfl rfl rfl); go_simp; refine hK _ ?_; clear hK K) | (refine Go.Flo.fw_any rfl ?_ (fun K hK => ?_); (first | exact Go.Mix.wanted_none rfl | exact Go.Mix.wanted_tt rfl rfl rfl | exact Go.Mix.wanted_ff rfl rfl rfl); go_simp; (try (go_ints; try go_simp)); refine hK _ ?_; clear hK K)))
      refine Go.Flo.fw_nil ?_
      intro w5 hww5 hfw5 huw5
      refine Go.Flo.tw_nil ?_
      obtain ⟨iend, hiend⟩ := hww5
      have hbw5 := HW.out iend
      rw [← hiend] at hbw5
      clear hiend iend huw5
      clear hfw5 u0 u1 HJ HW hne
      clear W I
      go_wp2
      obtain ⟨I, W, hne, hWI, hIW⟩ := Go.Mix.family (fun v => Below w3.heap.size w3 v) hbw5
      have HJ := Lib.hid hIW
      have HW := Lib.hid hWI
      clear hWI hIW
      refine Go.Flo.wp_region (fun w' => ∃ i, w' = W i) 46 [Go.Flo.Spec.is (.int .i32 (Fx.sat (az + bz + cz))), Go.Flo.Spec.is (.int .i32 (Fx.sat (az - bz))), Go.Flo.Spec.is (.int .i32 (Fx.sat (-az))), Go.Flo.Spec.is (.int .i64 (Fx.pw q)), Go.Flo.Spec.is (.int .i64 (az * k / Fx.pw q)), Go.Flo.Spec.is (.int .i32 (Fx.sat (az * k / Fx.pw q)))] (by kernel_rfl) (by kernel_rfl) (by decide) (by rintro _ w' ⟨i, rfl⟩ hb; exact HJ.out _ ((HW.out i).trans (hb.mono (HW.out i).size))) (HJ.out _ (Below.drew hbw5)) ?_
      simp only [Go.Flo.pair, Go.Mix.calm, List.take, List.drop, if_true, Bool.false_eq_true, if_false, Nat.reduceAdd, Nat.reduceSub]
      have u0 : ∀ i, (W i).cell? ⟨g1, 2, none⟩ = _ := fun i => ((HW.out i).cell (p := ⟨g1, 2, none⟩) k1).trans hP1.c2
      have u1 : ∀ i, (W i).cell? ⟨g2, 2, none⟩ = _ := fun i => ((HW.out i).cell (p := ⟨g2, 2, none⟩) k2).trans hP2.c2
      have u2 : ∀ i, (W i).cell? ⟨g3, 2, none⟩ = _ := fun i => ((HW.out i).cell (p := ⟨g3, 2, none⟩) k3).trans hP3.c2
      have u3 : ∀ i, (W i).cell? ⟨g4, 2, none⟩ = _ := fun i => ((HW.out i).cell (p := ⟨g4, 2, none⟩) k4).trans hP4.c2
      have u4 : ∀ i, (W i).cell? ⟨w.heap.size + 2, 2, none⟩ = some (.int .i32 cz) := fun i => ((HW.out i).cell (p := ⟨w.heap.size + 2, 2, none⟩) (by show w.heap.size + 2 < _; omega)).trans hA3'.c2
      (repeat (first | (refine Go.Flo.fw_calm rfl ?_ (fun K hK => ?_); (first | exact Go.Mix.wanted_none rfl | exact Go.Mix.wanted_tt rfl rfl rfl | exact Go.Mix.wanted_ff rfl rfl rfl); go_big_quiet_op; refine hK _ ?_; clear hK K) | (refine Go.Flo.fw_skip ?_ (fun K hK => ?_); (first | exact Go.Mix.wanted_tf rfl rfl rfl | exact Go.Mix.wanted_ft rfl rfl rfl); go_simp; refine hK _ ?_; clear hK K) | (refine Go.Flo.fw_any rfl ?_ (fun K hK => ?_); (first | exact Go.Mix.wanted_none rfl | exact Go.Mix.wanted_tt rfl rfl rfl | exact Go.Mix.wanted_ff rfl rfl rfl); go_simp; (try (go_ints; try go_simp)); refine hK _ ?_; clear hK K)))
      refine Go.Flo.fw_loud rfl ?_ rfl (by simp) (fun wv hwv hav K hK => ?_) (fun v hv K hK => ?_)
      · (first | exact Go.Mix.wanted_none rfl | exact Go.Mix.wanted_tt rfl rfl rfl | exact Go.Mix.wanted_ff rfl rfl rfl)
      · obtain ⟨iv, rfl⟩ := hwv
        have hbv := HW.out iv
        (first | go_big_op | go_simp)
        go_at_call 28
        refine (rSat_any (az + bz + cz) _ (by omega) (by omega)).mono ?_
        rintro e w' ⟨rfl, rfl⟩
        exact hK _ _ (Go.Flo.owes_is _ rfl (Below.refl _ _))
      obtain rfl := hv.is
      go_simp
      refine hK _ ?_
      clear hK K hv
      (repeat (first | (refine Go.Flo.fw_calm rfl ?_ (fun K hK => ?_); (first | exact Go.Mix.wanted_none rfl | exact Go.Mix.wanted_tt rfl rfl rfl | exact Go.Mix.wanted_ff rfl rfl rfl); go_big_quiet_op; refine hK _ ?_; clear hK K) | (refine Go.Flo.fw_skip ?_ (fun K hK => ?_); (first | exact Go.Mix.wanted_tf rfl rfl rfl | exact Go.Mix.wanted_ft rfl rfl rfl); go_simp; refine hK _ ?_; clear hK K) | (refine Go.Flo.fw_any rfl ?_ (fun K hK => ?_); (first | exact Go.Mix.wanted_none rfl | exact Go.Mix.wanted_tt rfl rfl rfl | exact Go.Mix.wanted_ff rfl rfl rfl); go_simp; (try (go_ints; try go_simp)); refine hK _ ?_; clear hK K)))
      refine Go.Flo.fw_loud rfl ?_ rfl (by simp) (fun wv hwv hav K hK => ?_) (fun v hv K hK => ?_)
      · (first | exact Go.Mix.wanted_none rfl | exact Go.Mix.wanted_tt rfl rfl rfl | exact Go.Mix.wanted_ff rfl rfl rfl)
      · obtain ⟨iv, rfl⟩ := hwv
        have hbv := HW.out iv
        (first | go_big_op | go_simp)
        go_at_call 28
        refine (rSat_any (az - bz) _ (by omega) (by omega)).mono ?_
        rintro e w' ⟨rfl, rfl⟩
        exact hK _ _ (Go.Flo.owes_is _ rfl (Below.refl _ _))
      obtain rfl := hv.is
      go_simp
      refine hK _ ?_
      clear hK K hv
      (repeat (first | (refine Go.Flo.fw_calm rfl ?_ (fun K hK => ?_); (first | exact Go.Mix.wanted_none rfl | exact Go.Mix.wanted_tt rfl rfl rfl | exact Go.Mix.wanted_ff rfl rfl rfl); go_big_quiet_op; refine hK _ ?_; clear hK K) | (refine Go.Flo.fw_skip ?_ (fun K hK => ?_); (first | exact Go.Mix.wanted_tf rfl rfl rfl | exact Go.Mix.wanted_ft rfl rfl rfl); go_simp; refine hK _ ?_; clear hK K) | (refine Go.Flo.fw_any rfl ?_ (fun K hK => ?_); (first | exact Go.Mix.wanted_none rfl | exact Go.Mix.wanted_tt rfl rfl rfl | exact Go.Mix.wanted_ff rfl rfl rfl); go_simp; (try (go_ints; try go_simp)); refine hK _ ?_; clear hK K)))
      refine Go.Flo.fw_loud rfl ?_ rfl (by simp) (fun wv hwv hav K hK => ?_) (fun v hv K hK => ?_)
      · (first | exact Go.Mix.wanted_none rfl | exact Go.Mix.wanted_tt rfl rfl rfl | exact Go.Mix.wanted_ff rfl rfl rfl)
      · obtain ⟨iv, rfl⟩ := hwv
        have hbv := HW.out iv
        (first | go_big_op | go_simp)
        go_at_call 28
        refine (rSat_any (-az) _ (by omega) (by omega)).mono ?_
        rintro e w' ⟨rfl, rfl⟩
        exact hK _ _ (Go.Flo.owes_is _ rfl (Below.refl _ _))
      obtain rfl := hv.is
      go_simp
      refine hK _ ?_
      clear hK K hv
      (repeat (first | (refine Go.Flo.fw_calm rfl ?_ (fun K hK => ?_); (first | exact Go.Mix.wanted_none rfl | exact Go.Mix.wanted_tt rfl rfl rfl | exact Go.Mix.wanted_ff rfl rfl rfl); go_big_quiet_op; refine hK _ ?_; clear hK K) | (refine Go.Flo.fw_skip ?_ (fun K hK => ?_); (first | exact Go.Mix.wanted_tf rfl rfl rfl | exact Go.Mix.wanted_ft rfl rfl rfl); go_simp; refine hK _ ?_; clear hK K) | (refine Go.Flo.fw_any rfl ?_ (fun K hK => ?_); (first | exact Go.Mix.wanted_none rfl | exact Go.Mix.wanted_tt rfl rfl rfl | exact Go.Mix.wanted_ff rfl rfl rfl); go_simp; (try (go_ints; try go_simp)); refine hK _ ?_; clear hK K)))
      refine Go.Flo.fw_loud rfl ?_ rfl (by simp) (fun wv hwv hav K hK => ?_) (fun v hv K hK => ?_)
      · (first | exact Go.Mix.wanted_none rfl | exact Go.Mix.wanted_tt rfl rfl rfl | exact Go.Mix.wanted_ff rfl rfl rfl)
      · obtain ⟨iv, rfl⟩ := hwv
        have hbv := HW.out iv
        (first | go_big_op | go_simp)
        go_at_call 30
        refine (Power_any q _).mono ?_
        rintro e w' ⟨rfl, rfl⟩
        exact hK _ _ (Go.Flo.owes_is _ rfl (Below.refl _ _))
      obtain rfl := hv.is
      go_simp
      refine hK _ ?_
      clear hK K hv
      (repeat (first | (refine Go.Flo.fw_calm rfl ?_ (fun K hK => ?_); (first | exact Go.Mix.wanted_none rfl | exact Go.Mix.wanted_tt rfl rfl rfl | exact Go.Mix.wanted_ff rfl rfl rfl); go_big_quiet_op; refine hK _ ?_; clear hK K) | (refine Go.Flo.fw_skip ?_ (fun K hK => ?_); (first | exact Go.Mix.wanted_tf rfl rfl rfl | exact Go.Mix.wanted_ft rfl rfl rfl); go_simp; refine hK _ ?_; clear hK K) | (refine Go.Flo.fw_any rfl ?_ (fun K hK => ?_); (first | exact Go.Mix.wanted_none rfl | exact Go.Mix.wanted_tt rfl rfl rfl | exact Go.Mix.wanted_ff rfl rfl rfl); go_simp; (try (go_ints; try go_simp)); refine hK _ ?_; clear hK K)))
      refine Go.Flo.fw_loud rfl ?_ rfl (by simp) (fun wv hwv hav K hK => ?_) (fun v hv K hK => ?_)
      · (first | exact Go.Mix.wanted_none rfl | exact Go.Mix.wanted_tt rfl rfl rfl | exact Go.Mix.wanted_ff rfl rfl rfl)
      · obtain ⟨iv, rfl⟩ := hwv
        have hbv := HW.out iv
        (first | go_big_op | go_simp)
        go_at_call 29
        refine (Down_any (az * k) (Fx.pw q) _ (by omega) (by omega) (by omega) (by omega)).mono ?_
        rintro e w' ⟨rfl, rfl⟩
        exact hK _ _ (Go.Flo.owes_is _ rfl (Below.refl _ _))
      obtain rfl := hv.is
      go_simp
      refine hK _ ?_
      clear hK K hv
      (repeat (first | (refine Go.Flo.fw_calm rfl ?_ (fun K hK => ?_); (first | exact Go.Mix.wanted_none rfl | exact Go.Mix.wanted_tt rfl rfl rfl | exact Go.Mix.wanted_ff rfl rfl rfl); go_big_quiet_op; refine hK _ ?_; clear hK K) | (refine Go.Flo.fw_skip ?_ (fun K hK => ?_); (first | exact Go.Mix.wanted_tf rfl rfl rfl | exact Go.Mix.wanted_ft rfl rfl rfl); go_simp; refine hK _ ?_; clear hK K) | (refine Go.Flo.fw_any rfl ?_ (fun K hK => ?_); (first | exact Go.Mix.wanted_none rfl | exact Go.Mix.wanted_tt rfl rfl rfl | exact Go.Mix.wanted_ff rfl rfl rfl); go_simp; (try (go_ints; try go_simp)); refine hK _ ?_; clear hK K)))
      refine Go.Flo.fw_loud rfl ?_ rfl (by simp) (fun wv hwv hav K hK => ?_) (fun v hv K hK => ?_)
      · (first | exact Go.Mix.wanted_none rfl | exact Go.Mix.wanted_tt rfl rfl rfl | exact Go.Mix.wanted_ff rfl rfl rfl)
      · obtain ⟨iv, rfl⟩ := hwv
        have hbv := HW.out iv
        (first | go_big_op | go_simp)
        go_at_call 28
        refine (rSat_any (az * k / Fx.pw q) _ (by omega) (by omega)).mono ?_
        rintro e w' ⟨rfl, rfl⟩
        exact hK _ _ (Go.Flo.owes_is _ rfl (Below.refl _ _))
      obtain rfl := hv.is
      go_simp
      refine hK _ ?_
      clear hK K hv
      (repeat (first | (refine Go.Flo.fw_calm rfl ?_ (fun K hK => ?_); (first | exact Go.Mix.wanted_none rfl | exact Go.Mix.wanted_tt rfl rfl rfl | exact Go.Mix.wanted_ff rfl rfl rfl); go_big_quiet_op; refine hK _ ?_; clear hK K) | (refine Go.Flo.fw_skip ?_ (fun K hK => ?_); (first | exact Go.Mix.wanted_tf rfl rfl rfl | exact Go.Mix.wanted_ft rfl rfl rfl); go_simp; refine hK _ ?_; clear hK K) | (refine Go.Flo.fw_any rfl ?_ (fun K hK => ?_); (first | exact Go.Mix.wanted_none rfl | exact Go.Mix.wanted_tt rfl rfl rfl | exact Go.Mix.wanted_ff rfl rfl rfl); go_simp; (try (go_ints; try go_simp)); refine hK _ ?_; clear hK K)))
      refine Go.Flo.fw_nil ?_
      intro w6 hww6 hfw6 huw6
      refine Go.Flo.tw_nil ?_
      obtain ⟨iend, hiend⟩ := hww6
      have hbw6 := HW.out iend
      rw [← hiend] at hbw6
      clear hiend iend huw6
      clear hfw6 u0 u1 u2 u3 u4 HJ HW hne
      clear W I
      go_wp2
      go_roundw
      case rel => exact ⟨.inr (.inr (.inr rfl)), hbw6⟩
      case measure => simp [intOf]
    · go_wp2
      have S0 := Lib.hid (sub_self_sat bx)
      have S1 := Lib.hid (sub_self_sat by_)
      have S2 := Lib.hid (sub_self_sat bz)
      rcases zero_cases ax ay az with ⟨rfl, rfl, rfl⟩ | hx | ⟨rfl, hx⟩ | ⟨rfl, rfl, hx⟩
      · have HZ := Lib.hid (show decide ((0 : Int) = 0 ∧ (0 : Int) = 0 ∧ (0 : Int) = 0) = true from rfl)
        skip
        obtain ⟨I, W, hne, hWI, hIW⟩ := Go.Mix.family (fun v => Below w3.heap.size w3 v) hI
        have HJ := Lib.hid hIW
        have HW := Lib.hid hWI
        clear hWI hIW
        refine Go.Flo.wp_region (fun w' => ∃ i, w' = W i) 18 [Go.Flo.Spec.is (.agg #[.int .i32 0, .int .i32 0, .int .i32 0]), Go.Flo.Spec.is (.bool true), Go.Flo.Spec.is (.agg #[.int .i32 0, .int .i32 0, .int .i32 0]), Go.Flo.Spec.is (.bool true)] (by kernel_rfl) (by kernel_rfl) (by decide) (by rintro _ w' ⟨i, rfl⟩ hb; exact HJ.out _ ((HW.out i).trans (hb.mono (HW.out i).size))) (HJ.out _ (Below.drew hI)) ?_
        simp only [Go.Flo.pair, Go.Mix.calm, List.take, List.drop, if_true, Bool.false_eq_true, if_false, Nat.reduceAdd, Nat.reduceSub]
        have u0 : ∀ i, (W i).cell? ⟨w.heap.size, 0, none⟩ = some (.int .i32 0) := fun i => ((HW.out i).cell (p := ⟨w.heap.size, 0, none⟩) (by show w.heap.size < _; omega)).trans hA'.c0
        have u1 : ∀ i, (W i).cell? ⟨w.heap.size, 1, none⟩ = some (.int .i32 0) := fun i => ((HW.out i).cell (p := ⟨w.heap.size, 1, none⟩) (by show w.heap.size < _; omega)).trans hA'.c1
        have u2 : ∀ i, (W i).cell? ⟨w.heap.size, 2, none⟩ = some (.int .i32 0) := fun i => ((HW.out i).cell (p := ⟨w.heap.size, 2, none⟩) (by show w.heap.size < _; omega)).trans hA'.c2
        have v0 : ∀ i, (W i).cell? ⟨w.heap.size + 1, 0, none⟩ = some (.int .i32 bx) := fun i => ((HW.out i).cell (p := ⟨w.heap.size + 1, 0, none⟩) (by show w.heap.size + 1 < _; omega)).trans hA2'.c0
        have v1 : ∀ i, (W i).cell? ⟨w.heap.size + 1, 1, none⟩ = some (.int .i32 by_) := fun i => ((HW.out i).cell (p := ⟨w.heap.size + 1, 1, none⟩) (by show w.heap.size + 1 < _; omega)).trans hA2'.c1
        have v2 : ∀ i, (W i).cell? ⟨w.heap.size + 1, 2, none⟩ = some (.int .i32 bz) := fun i => ((HW.out i).cell (p := ⟨w.heap.size + 1, 2, none⟩) (by show w.heap.size + 1 < _; omega)).trans hA2'.c2
        refine Go.Flo.fw_loud rfl ?_ rfl (by simp) (fun wv hwv hav K hK => ?_) (fun v hv K hK => ?_)
        · (first | exact Go.Mix.wanted_none rfl | exact Go.Mix.wanted_tt rfl rfl rfl | exact Go.Mix.wanted_ff rfl rfl rfl)
        · obtain ⟨iv, rfl⟩ := hwv
          have hbv := HW.out iv
          (first | go_big_op | go_simp)
          go_at_call 24
          refine (vAdd0_at _).mono ?_
          rintro e w' ⟨rfl, hbb⟩
          exact hK _ _ (Go.Flo.owes_is _ rfl hbb)
        obtain rfl := hv.is
        go_simp
        refine hK _ ?_
        clear hK K hv
        (repeat (first | (refine Go.Flo.fw_calm rfl ?_ (fun K hK => ?_); (first | exact Go.Mix.wanted_none rfl | exact Go.Mix.wanted_tt rfl rfl rfl | exact Go.Mix.wanted_ff rfl rfl rfl); go_big_quiet_op; refine hK _ ?_; clear hK K) | (refine Go.Flo.fw_skip ?_ (fun K hK => ?_); (first | exact Go.Mix.wanted_tf rfl rfl rfl | exact Go.Mix.wanted_ft rfl rfl rfl); go_simp; refine hK _ ?_; clear hK K) | (refine Go.Flo.fw_any rfl ?_ (fun K hK => ?_); (first | exact Go.Mix.wanted_none rfl | exact Go.Mix.wanted_tt rfl rfl rfl | exact Go.Mix.wanted_ff rfl rfl rfl); go_simp; (try (go_ints; try go_simp)); refine hK _ ?_; clear hK K)))
        refine Go.Flo.fw_loud rfl ?_ rfl (by simp) (fun wv hwv hav K hK => ?_) (fun v hv K hK => ?_)
        · (first | exact Go.Mix.wanted_none rfl | exact Go.Mix.wanted_tt rfl rfl rfl | exact Go.Mix.wanted_ff rfl rfl rfl)
        · obtain ⟨iv, rfl⟩ := hwv
          have hbv := HW.out iv
          (first | go_big_op | go_simp)
          go_at_call 31
          refine (vZero_any 0 0 0 _).mono ?_
          rintro e w' ⟨rfl, hbb⟩
          rw [HZ.out]
          exact hK _ _ (Go.Flo.owes_is _ rfl hbb)
        obtain rfl := hv.is
        go_simp
        refine hK _ ?_
        clear hK K hv
        (repeat (first | (refine Go.Flo.fw_calm rfl ?_ (fun K hK => ?_); (first | exact Go.Mix.wanted_none rfl | exact Go.Mix.wanted_tt rfl rfl rfl | exact Go.Mix.wanted_ff rfl rfl rfl); go_big_quiet_op; refine hK _ ?_; clear hK K) | (refine Go.Flo.fw_skip ?_ (fun K hK => ?_); (first | exact Go.Mix.wanted_tf rfl rfl rfl | exact Go.Mix.wanted_ft rfl rfl rfl); go_simp; refine hK _ ?_; clear hK K) | (refine Go.Flo.fw_any rfl ?_ (fun K hK => ?_); (first | exact Go.Mix.wanted_none rfl | exact Go.Mix.wanted_tt rfl rfl rfl | exact Go.Mix.wanted_ff rfl rfl rfl); go_simp; (try (go_ints; try go_simp)); refine hK _ ?_; clear hK K)))
        refine Go.Flo.fw_loud rfl ?_ rfl (by simp) (fun wv hwv hav K hK => ?_) (fun v hv K hK => ?_)
        · (first | exact Go.Mix.wanted_none rfl | exact Go.Mix.wanted_tt rfl rfl rfl | exact Go.Mix.wanted_ff rfl rfl rfl)
        · obtain ⟨iv, rfl⟩ := hwv
          have hbv := HW.out iv
          (first | go_big_op | go_simp)
          go_at_call 25
          refine (vSub_any bx by_ bz bx by_ bz _ bxlo bxhi by_lo by_hi bzlo bzhi bxlo bxhi by_lo by_hi bzlo bzhi).mono ?_
          rintro e w' ⟨rfl, hbb⟩
          rw [S0.out, S1.out, S2.out]
          exact hK _ _ (Go.Flo.owes_is _ rfl hbb)
        obtain rfl := hv.is
        go_simp
        refine hK _ ?_
        clear hK K hv
        (repeat (first | (refine Go.Flo.fw_calm rfl ?_ (fun K hK => ?_); (first | exact Go.Mix.wanted_none rfl | exact Go.Mix.wanted_tt rfl rfl rfl | exact Go.Mix.wanted_ff rfl rfl rfl); go_big_quiet_op; refine hK _ ?_; clear hK K) | (refine Go.Flo.fw_skip ?_ (fun K hK => ?_); (first | exact Go.Mix.wanted_tf rfl rfl rfl | exact Go.Mix.wanted_ft rfl rfl rfl); go_simp; refine hK _ ?_; clear hK K) | (refine Go.Flo.fw_any rfl ?_ (fun K hK => ?_); (first | exact Go.Mix.wanted_none rfl | exact Go.Mix.wanted_tt rfl rfl rfl | exact Go.Mix.wanted_ff rfl rfl rfl); go_simp; (try (go_ints; try go_simp)); refine hK _ ?_; clear hK K)))
        refine Go.Flo.fw_loud rfl ?_ rfl (by simp) (fun wv hwv hav K hK => ?_) (fun v hv K hK => ?_)
        · (first | exact Go.Mix.wanted_none rfl | exact Go.Mix.wanted_tt rfl rfl rfl | exact Go.Mix.wanted_ff rfl rfl rfl)
        · obtain ⟨iv, rfl⟩ := hwv
          have hbv := HW.out iv
          (first | go_big_op | go_simp)
          go_at_call 31
          refine (vZero_any 0 0 0 _).mono ?_
          rintro e w' ⟨rfl, hbb⟩
          exact hK _ _ (Go.Flo.owes_is _ rfl hbb)
        obtain rfl := hv.is
        go_simp
        refine hK _ ?_
        clear hK K hv
        (repeat (first | (refine Go.Flo.fw_calm rfl ?_ (fun K hK => ?_); (first | exact Go.Mix.wanted_none rfl | exact Go.Mix.wanted_tt rfl rfl rfl | exact Go.Mix.wanted_ff rfl rfl rfl); go_big_quiet_op; refine hK _ ?_; clear hK K) | (refine Go.Flo.fw_skip ?_ (fun K hK => ?_); (first | exact Go.Mix.wanted_tf rfl rfl rfl | exact Go.Mix.wanted_ft rfl rfl rfl); go_simp; refine hK _ ?_; clear hK K) | (refine Go.Flo.fw_any rfl ?_ (fun K hK => ?_); (first | exact Go.Mix.wanted_none rfl | exact Go.Mix.wanted_tt rfl rfl rfl | exact Go.Mix.wanted_ff rfl rfl rfl); go_simp; (try (go_ints; try go_simp)); refine hK _ ?_; clear hK K)))
        refine Go.Flo.fw_nil ?_
        intro w7 hww7 hfw7 huw7
        refine Go.Flo.tw_nil ?_
        obtain ⟨iend, hiend⟩ := hww7
        have hbw7 := HW.out iend
        rw [← hiend] at hbw7
        clear hiend iend huw7
        clear hfw7
        go_wp2
        go_ret
        exact ⟨ret_true (by simp), hB3.trans (hbw7.mono hB3.size)⟩
      · have HZ := Lib.hid (show decide (ax = 0 ∧ ay = 0 ∧ az = 0) = false by simp [hx])
        have hy : (ax == 0) = false := by rw [beq_eq_false_iff_ne]; exact hx
        skip
        obtain ⟨I, W, hne, hWI, hIW⟩ := Go.Mix.family (fun v => Below w3.heap.size w3 v) hI
        have HJ := Lib.hid hIW
        have HW := Lib.hid hWI
        clear hWI hIW
        refine Go.Flo.wp_region (fun w' => ∃ i, w' = W i) 18 [Go.Flo.Spec.is (.agg #[.int .i32 0, .int .i32 0, .int .i32 0]), Go.Flo.Spec.is (.bool false), Go.Flo.Spec.is (.agg #[.int .i32 0, .int .i32 0, .int .i32 0]), Go.Flo.Spec.is (.bool true)] (by kernel_rfl) (by kernel_rfl) (by decide) (by rintro _ w' ⟨i, rfl⟩ hb; exact HJ.out _ ((HW.out i).trans (hb.mono (HW.out i).size))) (HJ.out _ (Below.drew hI)) ?_
        simp only [Go.Flo.pair, Go.Mix.calm, List.take, List.drop, if_true, Bool.false_eq_true, if_false, Nat.reduceAdd, Nat.reduceSub]
        have u0 : ∀ i, (W i).cell? ⟨w.heap.size, 0, none⟩ = some (.int .i32 ax) := fun i => ((HW.out i).cell (p := ⟨w.heap.size, 0, none⟩) (by show w.heap.size < _; omega)).trans hA'.c0
        have u1 : ∀ i, (W i).cell? ⟨w.heap.size, 1, none⟩ = some (.int .i32 ay) := fun i => ((HW.out i).cell (p := ⟨w.heap.size, 1, none⟩) (by show w.heap.size < _; omega)).trans hA'.c1
        have u2 : ∀ i, (W i).cell? ⟨w.heap.size, 2, none⟩ = some (.int .i32 az) := fun i => ((HW.out i).cell (p := ⟨w.heap.size, 2, none⟩) (by show w.heap.size < _; omega)).trans hA'.c2
        have v0 : ∀ i, (W i).cell? ⟨w.heap.size + 1, 0, none⟩ = some (.int .i32 bx) := fun i => ((HW.out i).cell (p := ⟨w.heap.size + 1, 0, none⟩) (by show w.heap.size + 1 < _; omega)).trans hA2'.c0
        have v1 : ∀ i, (W i).cell? ⟨w.heap.size + 1, 1, none⟩ = some (.int .i32 by_) := fun i => ((HW.out i).cell (p := ⟨w.heap.size + 1, 1, none⟩) (by show w.heap.size + 1 < _; omega)).trans hA2'.c1
        have v2 : ∀ i, (W i).cell? ⟨w.heap.size + 1, 2, none⟩ = some (.int .i32 bz) := fun i => ((HW.out i).cell (p := ⟨w.heap.size + 1, 2, none⟩) (by show w.heap.size + 1 < _; omega)).trans hA2'.c2
        refine Go.Flo.fw_loud rfl ?_ rfl (by simp) (fun wv hwv hav K hK => ?_) (fun v hv K hK => ?_)
        · (first | exact Go.Mix.wanted_none rfl | exact Go.Mix.wanted_tt rfl rfl rfl | exact Go.Mix.wanted_ff rfl rfl rfl)
        · obtain ⟨iv, rfl⟩ := hwv
          have hbv := HW.out iv
          (first | go_big_op | go_simp)
          go_at_call 24
          refine (vAdd0_at _).mono ?_
          rintro e w' ⟨rfl, hbb⟩
          exact hK _ _ (Go.Flo.owes_is _ rfl hbb)
        obtain rfl := hv.is
        go_simp
        refine hK _ ?_
        clear hK K hv
        (repeat (first | (refine Go.Flo.fw_calm rfl ?_ (fun K hK => ?_); (first | exact Go.Mix.wanted_none rfl | exact Go.Mix.wanted_tt rfl rfl rfl | exact Go.Mix.wanted_ff rfl rfl rfl); go_big_quiet_op; refine hK _ ?_; clear hK K) | (refine Go.Flo.fw_skip ?_ (fun K hK => ?_); (first | exact Go.Mix.wanted_tf rfl rfl rfl | exact Go.Mix.wanted_ft rfl rfl rfl); go_simp; refine hK _ ?_; clear hK K) | (refine Go.Flo.fw_any rfl ?_ (fun K hK => ?_); (first | exact Go.Mix.wanted_none rfl | exact Go.Mix.wanted_tt rfl rfl rfl | exact Go.Mix.wanted_ff rfl rfl rfl); go_simp; (try (go_ints; try go_simp)); refine hK _ ?_; clear hK K)))
        refine Go.Flo.fw_loud rfl ?_ rfl (by simp) (fun wv hwv hav K hK => ?_) (fun v hv K hK => ?_)
        · (first | exact Go.Mix.wanted_none rfl | exact Go.Mix.wanted_tt rfl rfl rfl | exact Go.Mix.wanted_ff rfl rfl rfl)
        · obtain ⟨iv, rfl⟩ := hwv
          have hbv := HW.out iv
          (first | go_big_op | go_simp)
          go_at_call 31
          refine (vZero_any ax ay az _).mono ?_
          rintro e w' ⟨rfl, hbb⟩
          rw [HZ.out]
          exact hK _ _ (Go.Flo.owes_is _ rfl hbb)
        obtain rfl := hv.is
        go_simp
        refine hK _ ?_
        clear hK K hv
        (repeat (first | (refine Go.Flo.fw_calm rfl ?_ (fun K hK => ?_); (first | exact Go.Mix.wanted_none rfl | exact Go.Mix.wanted_tt rfl rfl rfl | exact Go.Mix.wanted_ff rfl rfl rfl); go_big_quiet_op; refine hK _ ?_; clear hK K) | (refine Go.Flo.fw_skip ?_ (fun K hK => ?_); (first | exact Go.Mix.wanted_tf rfl rfl rfl | exact Go.Mix.wanted_ft rfl rfl rfl); go_simp; refine hK _ ?_; clear hK K) | (refine Go.Flo.fw_any rfl ?_ (fun K hK => ?_); (first | exact Go.Mix.wanted_none rfl | exact Go.Mix.wanted_tt rfl rfl rfl | exact Go.Mix.wanted_ff rfl rfl rfl); go_simp; (try (go_ints; try go_simp)); refine hK _ ?_; clear hK K)))
        refine Go.Flo.fw_loud rfl ?_ rfl (by simp) (fun wv hwv hav K hK => ?_) (fun v hv K hK => ?_)
        · (first | exact Go.Mix.wanted_none rfl | exact Go.Mix.wanted_tt rfl rfl rfl | exact Go.Mix.wanted_ff rfl rfl rfl)
        · obtain ⟨iv, rfl⟩ := hwv
          have hbv := HW.out iv
          (first | go_big_op | go_simp)
          go_at_call 25
          refine (vSub_any bx by_ bz bx by_ bz _ bxlo bxhi by_lo by_hi bzlo bzhi bxlo bxhi by_lo by_hi bzlo bzhi).mono ?_
          rintro e w' ⟨rfl, hbb⟩
          rw [S0.out, S1.out, S2.out]
          exact hK _ _ (Go.Flo.owes_is _ rfl hbb)
        obtain rfl := hv.is
        go_simp
        refine hK _ ?_
        clear hK K hv
        (repeat (first | (refine Go.Flo.fw_calm rfl ?_ (fun K hK => ?_); (first | exact Go.Mix.wanted_none rfl | exact Go.Mix.wanted_tt rfl rfl rfl | exact Go.Mix.wanted_ff rfl rfl rfl); go_big_quiet_op; refine hK _ ?_; clear hK K) | (refine Go.Flo.fw_skip ?_ (fun K hK => ?_); (first | exact Go.Mix.wanted_tf rfl rfl rfl | exact Go.Mix.wanted_ft rfl rfl rfl); go_simp; refine hK _ ?_; clear hK K) | (refine Go.Flo.fw_any rfl ?_ (fun K hK => ?_); (first | exact Go.Mix.wanted_none rfl | exact Go.Mix.wanted_tt rfl rfl rfl | exact Go.Mix.wanted_ff rfl rfl rfl); go_simp; (try (go_ints; try go_simp)); refine hK _ ?_; clear hK K)))
        refine Go.Flo.fw_loud rfl ?_ rfl (by simp) (fun wv hwv hav K hK => ?_) (fun v hv K hK => ?_)
        · (first | exact Go.Mix.wanted_none rfl | exact Go.Mix.wanted_tt rfl rfl rfl | exact Go.Mix.wanted_ff rfl rfl rfl)
        · obtain ⟨iv, rfl⟩ := hwv
          have hbv := HW.out iv
          (first | go_big_op | go_simp)
          go_at_call 31
          refine (vZero_any 0 0 0 _).mono ?_
          rintro e w' ⟨rfl, hbb⟩
          exact hK _ _ (Go.Flo.owes_is _ rfl hbb)
        obtain rfl := hv.is
        go_simp
        refine hK _ ?_
        clear hK K hv
        (repeat (first | (refine Go.Flo.fw_calm rfl ?_ (fun K hK => ?_); (first | exact Go.Mix.wanted_none rfl | exact Go.Mix.wanted_tt rfl rfl rfl | exact Go.Mix.wanted_ff rfl rfl rfl); go_big_quiet_op; refine hK _ ?_; clear hK K) | (refine Go.Flo.fw_skip ?_ (fun K hK => ?_); (first | exact Go.Mix.wanted_tf rfl rfl rfl | exact Go.Mix.wanted_ft rfl rfl rfl); go_simp; refine hK _ ?_; clear hK K) | (refine Go.Flo.fw_any rfl ?_ (fun K hK => ?_); (first | exact Go.Mix.wanted_none rfl | exact Go.Mix.wanted_tt rfl rfl rfl | exact Go.Mix.wanted_ff rfl rfl rfl); go_simp; (try (go_ints; try go_simp)); refine hK _ ?_; clear hK K)))
        refine Go.Flo.fw_nil ?_
        intro w7 hww7 hfw7 huw7
        refine Go.Flo.tw_nil ?_
        obtain ⟨iend, hiend⟩ := hww7
        have hbw7 := HW.out iend
        rw [← hiend] at hbw7
        clear hiend iend huw7
        clear hfw7
        go_wp2
        go_ret
        exact ⟨ret_true (by simp), hB3.trans (hbw7.mono hB3.size)⟩
      · have HZ := Lib.hid (show decide ((0 : Int) = 0 ∧ ay = 0 ∧ az = 0) = false by simp [hx])
        have hy : (ay == 0) = false := by rw [beq_eq_false_iff_ne]; exact hx
        skip
        obtain ⟨I, W, hne, hWI, hIW⟩ := Go.Mix.family (fun v => Below w3.heap.size w3 v) hI
        have HJ := Lib.hid hIW
        have HW := Lib.hid hWI
        clear hWI hIW
        refine Go.Flo.wp_region (fun w' => ∃ i, w' = W i) 18 [Go.Flo.Spec.is (.agg #[.int .i32 0, .int .i32 0, .int .i32 0]), Go.Flo.Spec.is (.bool false), Go.Flo.Spec.is (.agg #[.int .i32 0, .int .i32 0, .int .i32 0]), Go.Flo.Spec.is (.bool true)] (by kernel_rfl) (by kernel_rfl) (by decide) (by rintro _ w' ⟨i, rfl⟩ hb; exact HJ.out _ ((HW.out i).trans (hb.mono (HW.out i).size))) (HJ.out _ (Below.drew hI)) ?_
        simp only [Go.Flo.pair, Go.Mix.calm, List.take, List.drop, if_true, Bool.false_eq_true, if_false, Nat.reduceAdd, Nat.reduceSub]
        have u0 : ∀ i, (W i).cell? ⟨w.heap.size, 0, none⟩ = some (.int .i32 0) := fun i => ((HW.out i).cell (p := ⟨w.heap.size, 0, none⟩) (by show w.heap.size < _; omega)).trans hA'.c0
        have u1 : ∀ i, (W i).cell? ⟨w.heap.size, 1, none⟩ = some (.int .i32 ay) := fun i => ((HW.out i).cell (p := ⟨w.heap.size, 1, none⟩) (by show w.heap.size < _; omega)).trans hA'.c1
        have u2 : ∀ i, (W i).cell? ⟨w.heap.size, 2, none⟩ = some (.int .i32 az) := fun i => ((HW.out i).cell (p := ⟨w.heap.size, 2, none⟩) (by show w.heap.size < _; omega)).trans hA'.c2
        have v0 : ∀ i, (W i).cell? ⟨w.heap.size + 1, 0, none⟩ = some (.int .i32 bx) := fun i => ((HW.out i).cell (p := ⟨w.heap.size + 1, 0, none⟩) (by show w.heap.size + 1 < _; omega)).trans hA2'.c0
        have v1 : ∀ i, (W i).cell? ⟨w.heap.size + 1, 1, none⟩ = some (.int .i32 by_) := fun i => ((HW.out i).cell (p := ⟨w.heap.size + 1, 1, none⟩) (by show w.heap.size + 1 < _; omega)).trans hA2'.c1
        have v2 : ∀ i, (W i).cell? ⟨w.heap.size + 1, 2, none⟩ = some (.int .i32 bz) := fun i => ((HW.out i).cell (p := ⟨w.heap.size + 1, 2, none⟩) (by show w.heap.size + 1 < _; omega)).trans hA2'.c2
        refine Go.Flo.fw_loud rfl ?_ rfl (by simp) (fun wv hwv hav K hK => ?_) (fun v hv K hK => ?_)
        · (first | exact Go.Mix.wanted_none rfl | exact Go.Mix.wanted_tt rfl rfl rfl | exact Go.Mix.wanted_ff rfl rfl rfl)
        · obtain ⟨iv, rfl⟩ := hwv
          have hbv := HW.out iv
          (first | go_big_op | go_simp)
          go_at_call 24
          refine (vAdd0_at _).mono ?_
          rintro e w' ⟨rfl, hbb⟩
          exact hK _ _ (Go.Flo.owes_is _ rfl hbb)
        obtain rfl := hv.is
        go_simp
        refine hK _ ?_
        clear hK K hv
        (repeat (first | (refine Go.Flo.fw_calm rfl ?_ (fun K hK => ?_); (first | exact Go.Mix.wanted_none rfl | exact Go.Mix.wanted_tt rfl rfl rfl | exact Go.Mix.wanted_ff rfl rfl rfl); go_big_quiet_op; refine hK _ ?_; clear hK K) | (refine Go.Flo.fw_skip ?_ (fun K hK => ?_); (first | exact Go.Mix.wanted_tf rfl rfl rfl | exact Go.Mix.wanted_ft rfl rfl rfl); go_simp; refine hK _ ?_; clear hK K) | (refine Go.Flo.fw_any rfl ?_ (fun K hK => ?_); (first | exact Go.Mix.wanted_none rfl | exact Go.Mix.wanted_tt rfl rfl rfl | exact Go.Mix.wanted_ff rfl rfl rfl); go_simp; (try (go_ints; try go_simp)); refine hK _ ?_; clear hK K)))
        refine Go.Flo.fw_loud rfl ?_ rfl (by simp) (fun wv hwv hav K hK => ?_) (fun v hv K hK => ?_)
        · (first | exact Go.Mix.wanted_none rfl | exact Go.Mix.wanted_tt rfl rfl rfl | exact Go.Mix.wanted_ff rfl rfl rfl)
        · obtain ⟨iv, rfl⟩ := hwv
          have hbv := HW.out iv
          (first | go_big_op | go_simp)
          go_at_call 31
          refine (vZero_any 0 ay az _).mono ?_
          rintro e w' ⟨rfl, hbb⟩
          rw [HZ.out]
          exact hK _ _ (Go.Flo.owes_is _ rfl hbb)
        obtain rfl := hv.is
        go_simp
        refine hK _ ?_
        clear hK K hv
        (repeat (first | (refine Go.Flo.fw_calm rfl ?_ (fun K hK => ?_); (first | exact Go.Mix.wanted_none rfl | exact Go.Mix.wanted_tt rfl rfl rfl | exact Go.Mix.wanted_ff rfl rfl rfl); go_big_quiet_op; refine hK _ ?_; clear hK K) | (refine Go.Flo.fw_skip ?_ (fun K hK => ?_); (first | exact Go.Mix.wanted_tf rfl rfl rfl | exact Go.Mix.wanted_ft rfl rfl rfl); go_simp; refine hK _ ?_; clear hK K) | (refine Go.Flo.fw_any rfl ?_ (fun K hK => ?_); (first | exact Go.Mix.wanted_none rfl | exact Go.Mix.wanted_tt rfl rfl rfl | exact Go.Mix.wanted_ff rfl rfl rfl); go_simp; (try (go_ints; try go_simp)); refine hK _ ?_; clear hK K)))
        refine Go.Flo.fw_loud rfl ?_ rfl (by simp) (fun wv hwv hav K hK => ?_) (fun v hv K hK => ?_)
        · (first | exact Go.Mix.wanted_none rfl | exact Go.Mix.wanted_tt rfl rfl rfl | exact Go.Mix.wanted_ff rfl rfl rfl)
        · obtain ⟨iv, rfl⟩ := hwv
          have hbv := HW.out iv
          (first | go_big_op | go_simp)
          go_at_call 25
          refine (vSub_any bx by_ bz bx by_ bz _ bxlo bxhi by_lo by_hi bzlo bzhi bxlo bxhi by_lo by_hi bzlo bzhi).mono ?_
          rintro e w' ⟨rfl, hbb⟩
          rw [S0.out, S1.out, S2.out]
          exact hK _ _ (Go.Flo.owes_is _ rfl hbb)
        obtain rfl := hv.is
        go_simp
        refine hK _ ?_
        clear hK K hv
        (repeat (first | (refine Go.Flo.fw_calm rfl ?_ (fun K hK => ?_); (first | exact Go.Mix.wanted_none rfl | exact Go.Mix.wanted_tt rfl rfl rfl | exact Go.Mix.wanted_ff rfl rfl rfl); go_big_quiet_op; refine hK _ ?_; clear hK K) | (refine Go.Flo.fw_skip ?_ (fun K hK => ?_); (first | exact Go.Mix.wanted_tf rfl rfl rfl | exact Go.Mix.wanted_ft rfl rfl rfl); go_simp; refine hK _ ?_; clear hK K) | (refine Go.Flo.fw_any rfl ?_ (fun K hK => ?_); (first | exact Go.Mix.wanted_none rfl | exact Go.Mix.wanted_tt rfl rfl rfl | exact Go.Mix.wanted_ff rfl rfl rfl); go_simp; (try (go_ints; try go_simp)); refine hK _ ?_; clear hK K)))
        refine Go.Flo.fw_loud rfl ?_ rfl (by simp) (fun wv hwv hav K hK => ?_) (fun v hv K hK => ?_)
        · (first | exact Go.Mix.wanted_none rfl | exact Go.Mix.wanted_tt rfl rfl rfl | exact Go.Mix.wanted_ff rfl rfl rfl)
        · obtain ⟨iv, rfl⟩ := hwv
          have hbv := HW.out iv
          (first | go_big_op | go_simp)
          go_at_call 31
          refine (vZero_any 0 0 0 _).mono ?_
          rintro e w' ⟨rfl, hbb⟩
          exact hK _ _ (Go.Flo.owes_is _ rfl hbb)
        obtain rfl := hv.is
        go_simp
        refine hK _ ?_
        clear hK K hv
        (repeat (first | (refine Go.Flo.fw_calm rfl ?_ (fun K hK => ?_); (first | exact Go.Mix.wanted_none rfl | exact Go.Mix.wanted_tt rfl rfl rfl | exact Go.Mix.wanted_ff rfl rfl rfl); go_big_quiet_op; refine hK _ ?_; clear hK K) | (refine Go.Flo.fw_skip ?_ (fun K hK => ?_); (first | exact Go.Mix.wanted_tf rfl rfl rfl | exact Go.Mix.wanted_ft rfl rfl rfl); go_simp; refine hK _ ?_; clear hK K) | (refine Go.Flo.fw_any rfl ?_ (fun K hK => ?_); (first | exact Go.Mix.wanted_none rfl | exact Go.Mix.wanted_tt rfl rfl rfl | exact Go.Mix.wanted_ff rfl rfl rfl); go_simp; (try (go_ints; try go_simp)); refine hK _ ?_; clear hK K)))
        refine Go.Flo.fw_nil ?_
        intro w7 hww7 hfw7 huw7
        refine Go.Flo.tw_nil ?_
        obtain ⟨iend, hiend⟩ := hww7
        have hbw7 := HW.out iend
        rw [← hiend] at hbw7
        clear hiend iend huw7
        clear hfw7
        go_wp2
        go_ret
        exact ⟨ret_true (by simp), hB3.trans (hbw7.mono hB3.size)⟩
      · have HZ := Lib.hid (show decide ((0 : Int) = 0 ∧ (0 : Int) = 0 ∧ az = 0) = false by simp [hx])
        have hy : (az == 0) = false := by rw [beq_eq_false_iff_ne]; exact hx
        skip
        obtain ⟨I, W, hne, hWI, hIW⟩ := Go.Mix.family (fun v => Below w3.heap.size w3 v) hI
        have HJ := Lib.hid hIW
        have HW := Lib.hid hWI
        clear hWI hIW
        refine Go.Flo.wp_region (fun w' => ∃ i, w' = W i) 18 [Go.Flo.Spec.is (.agg #[.int .i32 0, .int .i32 0, .int .i32 0]), Go.Flo.Spec.is (.bool false), Go.Flo.Spec.is (.agg #[.int .i32 0, .int .i32 0, .int .i32 0]), Go.Flo.Spec.is (.bool true)] (by kernel_rfl) (by kernel_rfl) (by decide) (by rintro _ w' ⟨i, rfl⟩ hb; exact HJ.out _ ((HW.out i).trans (hb.mono (HW.out i).size))) (HJ.out _ (Below.drew hI)) ?_
        simp only [Go.Flo.pair, Go.Mix.calm, List.take, List.drop, if_true, Bool.false_eq_true, if_false, Nat.reduceAdd, Nat.reduceSub]
        have u0 : ∀ i, (W i).cell? ⟨w.heap.size, 0, none⟩ = some (.int .i32 0) := fun i => ((HW.out i).cell (p := ⟨w.heap.size, 0, none⟩) (by show w.heap.size < _; omega)).trans hA'.c0
        have u1 : ∀ i, (W i).cell? ⟨w.heap.size, 1, none⟩ = some (.int .i32 0) := fun i => ((HW.out i).cell (p := ⟨w.heap.size, 1, none⟩) (by show w.heap.size < _; omega)).trans hA'.c1
        have u2 : ∀ i, (W i).cell? ⟨w.heap.size, 2, none⟩ = some (.int .i32 az) := fun i => ((HW.out i).cell (p := ⟨w.heap.size, 2, none⟩) (by show w.heap.size < _; omega)).trans hA'.c2
        have v0 : ∀ i, (W i).cell? ⟨w.heap.size + 1, 0, none⟩ = some (.int .i32 bx) := fun i => ((HW.out i).cell (p := ⟨w.heap.size + 1, 0, none⟩) (by show w.heap.size + 1 < _; omega)).trans hA2'.c0
        have v1 : ∀ i, (W i).cell? ⟨w.heap.size + 1, 1, none⟩ = some (.int .i32 by_) := fun i => ((HW.out i).cell (p := ⟨w.heap.size + 1, 1, none⟩) (by show w.heap.size + 1 < _; omega)).trans hA2'.c1
        have v2 : ∀ i, (W i).cell? ⟨w.heap.size + 1, 2, none⟩ = some (.int .i32 bz) := fun i => ((HW.out i).cell (p := ⟨w.heap.size + 1, 2, none⟩) (by show w.heap.size + 1 < _; omega)).trans hA2'.c2
        refine Go.Flo.fw_loud rfl ?_ rfl (by simp) (fun wv hwv hav K hK => ?_) (fun v hv K hK => ?_)
        · (first | exact Go.Mix.wanted_none rfl | exact Go.Mix.wanted_tt rfl rfl rfl | exact Go.Mix.wanted_ff rfl rfl rfl)
        · obtain ⟨iv, rfl⟩ := hwv
          have hbv := HW.out iv
          (first | go_big_op | go_simp)
          go_at_call 24
          refine (vAdd0_at _).mono ?_
          rintro e w' ⟨rfl, hbb⟩
          exact hK _ _ (Go.Flo.owes_is _ rfl hbb)
        obtain rfl := hv.is
        go_simp
        refine hK _ ?_
        clear hK K hv
        (repeat (first | (refine Go.Flo.fw_calm rfl ?_ (fun K hK => ?_); (first | exact Go.Mix.wanted_none rfl | exact Go.Mix.wanted_tt rfl rfl rfl | exact Go.Mix.wanted_ff rfl rfl rfl); go_big_quiet_op; refine hK _ ?_; clear hK K) | (refine Go.Flo.fw_skip ?_ (fun K hK => ?_); (first | exact Go.Mix.wanted_tf rfl rfl rfl | exact Go.Mix.wanted_ft rfl rfl rfl); go_simp; refine hK _ ?_; clear hK K) | (refine Go.Flo.fw_any rfl ?_ (fun K hK => ?_); (first | exact Go.Mix.wanted_none rfl | exact Go.Mix.wanted_tt rfl rfl rfl | exact Go.Mix.wanted_ff rfl rfl rfl); go_simp; (try (go_ints; try go_simp)); refine hK _ ?_; clear hK K)))
        refine Go.Flo.fw_loud rfl ?_ rfl (by simp) (fun wv hwv hav K hK => ?_) (fun v hv K hK => ?_)
        · (first | exact Go.Mix.wanted_none rfl | exact Go.Mix.wanted_tt rfl rfl rfl | exact Go.Mix.wanted_ff rfl rfl rfl)
        · obtain ⟨iv, rfl⟩ := hwv
          have hbv := HW.out iv
          (first | go_big_op | go_simp)
          go_at_call 31
          refine (vZero_any 0 0 az _).mono ?_
          rintro e w' ⟨rfl, hbb⟩
          rw [HZ.out]
          exact hK _ _ (Go.Flo.owes_is _ rfl hbb)
        obtain rfl := hv.is
        go_simp
        refine hK _ ?_
        clear hK K hv
        (repeat (first | (refine Go.Flo.fw_calm rfl ?_ (fun K hK => ?_); (first | exact Go.Mix.wanted_none rfl | exact Go.Mix.wanted_tt rfl rfl rfl | exact Go.Mix.wanted_ff rfl rfl rfl); go_big_quiet_op; refine hK _ ?_; clear hK K) | (refine Go.Flo.fw_skip ?_ (fun K hK => ?_); (first | exact Go.Mix.wanted_tf rfl rfl rfl | exact Go.Mix.wanted_ft rfl rfl rfl); go_simp; refine hK _ ?_; clear hK K) | (refine Go.Flo.fw_any rfl ?_ (fun K hK => ?_); (first | exact Go.Mix.wanted_none rfl | exact Go.Mix.wanted_tt rfl rfl rfl | exact Go.Mix.wanted_ff rfl rfl rfl); go_simp; (try (go_ints; try go_simp)); refine hK _ ?_; clear hK K)))
        refine Go.Flo.fw_loud rfl ?_ rfl (by simp) (fun wv hwv hav K hK => ?_) (fun v hv K hK => ?_)
        · (first | exact Go.Mix.wanted_none rfl | exact Go.Mix.wanted_tt rfl rfl rfl | exact Go.Mix.wanted_ff rfl rfl rfl)
        · obtain ⟨iv, rfl⟩ := hwv
          have hbv := HW.out iv
          (first | go_big_op | go_simp)
          go_at_call 25
          refine (vSub_any bx by_ bz bx by_ bz _ bxlo bxhi by_lo by_hi bzlo bzhi bxlo bxhi by_lo by_hi bzlo bzhi).mono ?_
          rintro e w' ⟨rfl, hbb⟩
          rw [S0.out, S1.out, S2.out]
          exact hK _ _ (Go.Flo.owes_is _ rfl hbb)
        obtain rfl := hv.is
        go_simp
        refine hK _ ?_
        clear hK K hv
        (repeat (first | (refine Go.Flo.fw_calm rfl ?_ (fun K hK => ?_); (first | exact Go.Mix.wanted_none rfl | exact Go.Mix.wanted_tt rfl rfl rfl | exact Go.Mix.wanted_ff rfl rfl rfl); go_big_quiet_op; refine hK _ ?_; clear hK K) | (refine Go.Flo.fw_skip ?_ (fun K hK => ?_); (first | exact Go.Mix.wanted_tf rfl rfl rfl | exact Go.Mix.wanted_ft rfl rfl rfl); go_simp; refine hK _ ?_; clear hK K) | (refine Go.Flo.fw_any rfl ?_ (fun K hK => ?_); (first | exact Go.Mix.wanted_none rfl | exact Go.Mix.wanted_tt rfl rfl rfl | exact Go.Mix.wanted_ff rfl rfl rfl); go_simp; (try (go_ints; try go_simp)); refine hK _ ?_; clear hK K)))
        refine Go.Flo.fw_loud rfl ?_ rfl (by simp) (fun wv hwv hav K hK => ?_) (fun v hv K hK => ?_)
        · (first | exact Go.Mix.wanted_none rfl | exact Go.Mix.wanted_tt rfl rfl rfl | exact Go.Mix.wanted_ff rfl rfl rfl)
        · obtain ⟨iv, rfl⟩ := hwv
          have hbv := HW.out iv
          (first | go_big_op | go_simp)
          go_at_call 31
          refine (vZero_any 0 0 0 _).mono ?_
          rintro e w' ⟨rfl, hbb⟩
          exact hK _ _ (Go.Flo.owes_is _ rfl hbb)
        obtain rfl := hv.is
        go_simp
        refine hK _ ?_
        clear hK K hv
        (repeat (first | (refine Go.Flo.fw_calm rfl ?_ (fun K hK => ?_); (first | exact Go.Mix.wanted_none rfl | exact Go.Mix.wanted_tt rfl rfl rfl | exact Go.Mix.wanted_ff rfl rfl rfl); go_big_quiet_op; refine hK _ ?_; clear hK K) | (refine Go.Flo.fw_skip ?_ (fun K hK => ?_); (first | exact Go.Mix.wanted_tf rfl rfl rfl | exact Go.Mix.wanted_ft rfl rfl rfl); go_simp; refine hK _ ?_; clear hK K) | (refine Go.Flo.fw_any rfl ?_ (fun K hK => ?_); (first | exact Go.Mix.wanted_none rfl | exact Go.Mix.wanted_tt rfl rfl rfl | exact Go.Mix.wanted_ff rfl rfl rfl); go_simp; (try (go_ints; try go_simp)); refine hK _ ?_; clear hK K)))
        refine Go.Flo.fw_nil ?_
        intro w7 hww7 hfw7 huw7
        refine Go.Flo.tw_nil ?_
        obtain ⟨iend, hiend⟩ := hww7
        have hbw7 := HW.out iend
        rw [← hiend] at hbw7
        clear hiend iend huw7
        clear hfw7
        go_wp2
        go_ret
        exact ⟨ret_true (by simp), hB3.trans (hbw7.mono hB3.size)⟩
theorem walk_VecParts (ax ay az bx by_ bz cx cy cz k q : Int) (w : World) (hax : (Lit.int .i32 ax).wf = true) (hay : (Lit.int .i32 ay).wf = true) (haz : (Lit.int .i32 az).wf = true) (hbx : (Lit.int .i32 bx).wf = true) (hby_ : (Lit.int .i32 by_).wf = true) (hbz : (Lit.int .i32 bz).wf = true) (hcx : (Lit.int .i32 cx).wf = true) (hcy : (Lit.int .i32 cy).wf = true) (hcz : (Lit.int .i32 cz).wf = true) (hk : (Lit.int .i32 k).wf = true) (_ : (Lit.int .i64 q).wf = true) :
    Calls Try.prog 7 #[.agg #[.int .i32 ax, .int .i32 ay, .int .i32 az], .agg #[.int .i32 bx, .int .i32 by_, .int .i32 bz], .agg #[.int .i32 cx, .int .i32 cy, .int .i32 cz], .int .i32 k, .int .i64 q] w fun e w' => e = .returned (.bool true) ∧ Below w.heap.size w w' := by
  obtain ⟨axlo, axhi⟩ := bounds_i32 hax
  obtain ⟨aylo, ayhi⟩ := bounds_i32 hay
  obtain ⟨azlo, azhi⟩ := bounds_i32 haz
  obtain ⟨bxlo, bxhi⟩ := bounds_i32 hbx
  obtain ⟨by_lo, by_hi⟩ := bounds_i32 hby_
  obtain ⟨bzlo, bzhi⟩ := bounds_i32 hbz
  obtain ⟨cxlo, cxhi⟩ := bounds_i32 hcx
  obtain ⟨cylo, cyhi⟩ := bounds_i32 hcy
  obtain ⟨czlo, czhi⟩ := bounds_i32 hcz
  obtain ⟨klo, khi⟩ := bounds_i32 hk
  exact walk_VecParts_0 ax ay az bx by_ bz cx cy cz k q w axlo axhi aylo ayhi azlo azhi bxlo bxhi by_lo by_hi bzlo bzhi cxlo cxhi cylo cyhi czlo czhi klo khi
end Go.Proofs.Ytikhlhdjaladgaa
