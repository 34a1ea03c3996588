/- Layer 15: the document's Parse. -/
import Derived.Test.YtbomkneajmgckaaCk3
namespace Go.Proofs.Ytbomkneajmgckaa
open Go.RowKit Go.Own
set_option linter.unusedVariables false
set_option linter.unusedSimpArgs false
theorem rd_cellC {n len cap b off k : Nat} {f : Nat → Value} {w : World} (h : Rd n w (some ⟨b, off, none⟩) len cap f) (hk : k < len) : w.cell? ⟨b, off + k, none⟩ = some (f k) := by
  obtain ⟨b', off', he, _, hc⟩ := h.at hk
  injection he with he
  injection he with h1 h2 h3
  subst h1 h2
  exact hc
theorem rd_seg {n len cap b off i j : Nat} {w : World} {l : List Nat} (h : Rd n w (some ⟨b, off, none⟩) len cap (bv l)) (hl : l.length = len) (hj : i + j ≤ len) (hj0 : 0 < j) : Rd n w (some ⟨b, off + i, none⟩) j (cap - i) (bv ((l.drop i).take j)) := by
  have h1 := h.le
  have h2 := h.top
  refine ⟨by omega, by omega, fun e => (by cases e), fun _ => ⟨b, off + i, rfl, ?_, fun x hx => ?_⟩⟩
  · obtain ⟨b', off', e, hb, _⟩ := h.row (by omega)
    simp only [Option.some.injEq, Addr.mk.injEq] at e
    obtain ⟨rfl, _, _⟩ := e
    exact hb
  · obtain ⟨b', off', e, _, hc⟩ := h.row (by omega)
    simp only [Option.some.injEq, Addr.mk.injEq] at e
    obtain ⟨rfl, rfl, _⟩ := e
    have := hc (i + x) (by omega)
    rw [Nat.add_assoc, this]
    unfold bv
    have e2 : ((l.drop i).take j).getD x 0 = l.getD (i + x) 0 := by
      simp [List.getD, List.getElem?_take, hx]
    rw [e2]
theorem size_rd' : (Try.prog.info? 93).map (·.size) = some 6 := by kernel_rfl
set_option maxRecDepth 100000 in
set_option maxHeartbeats 4000000 in
theorem rdParse_len (a : Option Addr) (len cap : Nat) (w : World) (h1 : len ≤ cap) (h2 : cap ≤ maxLen) (hne : len ≠ 18) :
    Calls Try.prog 54 #[.slice a len cap] w fun e w' => e = .returned (.tuple #[.agg #[.int .u8 0, .int .i64 0, .int .i32 0, .int .i32 0, .int .u32 0, .int .u32 0], .int .i64 2]) ∧ Below w.heap.size w w' := by
  have hI : ((len : Int) != 18) = true := by simp; omega
  unfold maxLen at h2
  clear hne
  have hb0 : Below w.heap.size w (w.alloc (.cells #[.int .u8 0, .int .i64 0, .int .i32 0, .int .i32 0, .int .u32 0, .int .u32 0] 93)) := by repeat' (first | (with_reducible exact Below.refl _ _) | (with_reducible assumption) | (with_reducible refine Below.setCell ?_ ?_ _) | (with_reducible refine Below.alloc ?_ ?_ _) | (with_reducible refine Below.drew ?_) | (with_reducible refine Below.drawsN ?_ _) | go_size)
  have g0 := heap_alloc_new w (.cells #[.int .u8 0, .int .i64 0, .int .i32 0, .int .i32 0, .int .u32 0, .int .u32 0] 93)
  go_enter Try.func54, Try.ntmps54
  go_wp2_with (refine wpList_store_row rfl 93 _ _ rfl _ _ rfl rfl _ _ g0 (by exact size_rd') (by rfl) (by simp [Value.oneCell']) ?_; (try go_simp))
  refine bodyPost_ret (res_ct rfl _ _ _ _ _ _ rfl (setRow_heap _ _ _ _ _ _ g0) Try.underlying93 rfl size_rd') rfl ?_
  exact ⟨rfl, bel_row hb0 (Nat.le_refl _) _⟩
set_option maxRecDepth 100000 in
set_option maxHeartbeats 4000000 in
theorem rdParse_18 (a : Option Addr) (cap n : Nat) (q : List Nat) (w : World) (hl : q.length = 18) (hn : n ≤ w.heap.size) (hr : Rd n w a 18 cap (bv q)) (hb : bytes q) (k p l h er : Int) (m o : Nat) (hp : dfParse q = (Df.mk k p l h m o, er)) :
    Calls Try.prog 54 #[.slice a 18 cap] w fun e w' => e = .returned (.tuple #[.agg #[.int .u8 k, .int .i64 p, .int .i32 l, .int .i32 h, .int .u32 ((m : Nat) : Int), .int .u32 ((o : Nat) : Int)], .int .i64 er]) ∧ Below w.heap.size w w' := by
  have h1 := hr.le
  have h2 := hr.top
  unfold maxLen at h2
  have h14 : ¬ cap = 14 := by omega
  obtain ⟨b, off, rfl, hbn, hc⟩ := hr.row (by omega)
  have hb0 : Below w.heap.size w (w.alloc (.cells #[.int .u8 0, .int .i64 0, .int .i32 0, .int .i32 0, .int .u32 0, .int .u32 0] 93)) := by repeat' (first | (with_reducible exact Below.refl _ _) | (with_reducible assumption) | (with_reducible refine Below.setCell ?_ ?_ _) | (with_reducible refine Below.alloc ?_ ?_ _) | (with_reducible refine Below.drew ?_) | (with_reducible refine Below.drawsN ?_ _) | go_size)
  have g0 := heap_alloc_new w (.cells #[.int .u8 0, .int .i64 0, .int .i32 0, .int .i32 0, .int .u32 0, .int .u32 0] 93)
  have HRD := Lib.hid ((hr.below' hb0 hn).mono (Nat.le_trans hn hb0.size))
  have HB0 := Lib.hid hb0
  have hz0 := rd_cellC (k := 0) HRD.out (by omega)
  have hz1 := rd_cellC (k := 1) HRD.out (by omega)
  unfold bv at hz0 hz1
  rw [← fld_one q 0 (by omega)] at hz0
  rw [← fld_one q 1 (by omega)] at hz1
  have hbs : b < w.heap.size + 1 := by omega
  go_enter Try.func54, Try.ntmps54
  go_wp2_with fail
  obtain ⟨g, hg⟩ : ∃ g, g = w.heap.size := ⟨_, rfl⟩
  obtain ⟨w2, hw2⟩ : ∃ w2, w2 = w.alloc (.cells #[.int .u8 0, .int .i64 0, .int .i32 0, .int .i32 0, .int .u32 0, .int .u32 0] 93) := ⟨_, rfl⟩
  have hbs : b < w2.heap.size := by rw [hw2]; simp; omega
  rw [← hw2] at HRD HB0 hz0 hz1 g0
  rw [← hg] at g0
  rw [← hw2, ← hg]
  have HB2 := Lib.hid HB0.out
  have g2 := g0
  have hgg : w.heap.size ≤ g := by omega
  have hgx := box_lt g0
  clear hw2 hg hb0 g0 hr hc
  have hb0x : fld q 0 1 < 256 := fld_lt hb 0 1 256 (by decide)
  have hb1x : fld q 1 1 < 256 := fld_lt hb 1 1 256 (by decide)
  have hb2x : fld q 2 4 < 4294967296 := fld_lt hb 2 4 _ (by decide)
  have hb3x : fld q 6 4 < 4294967296 := fld_lt hb 6 4 _ (by decide)
  have hb4x : fld q 10 4 < 4294967296 := fld_lt hb 10 4 _ (by decide)
  have hb5x : fld q 14 4 < 4294967296 := fld_lt hb 14 4 _ (by decide)
  have HS := Lib.hid (show ∀ i, i + 4 ≤ 18 → ∀ W : World, Below w2.heap.size w2 W → Calls Try.prog 98 #[.slice (some ⟨b, off + i, none⟩) 4 (cap - i)] W fun e w' => e = .returned (.int .u64 (fld q i 4 : Nat)) ∧ W = w' from fun i hi W hbw =>
    Value_any (some ⟨b, off + i, none⟩) 4 (cap - i) w2.heap.size _ W (by rw [List.length_take, List.length_drop, hl]; omega) (rd_seg (HRD.out.below hbw) hl hi (by decide)) ((hb.drop _).take _) (by decide))
  rw [dfParse, if_pos hl, dfP] at hp
  obtain ⟨x0, hx0⟩ : ∃ x, x = fld q 0 1 := ⟨_, rfl⟩
  obtain ⟨x1, hx1⟩ : ∃ x, x = fld q 1 1 := ⟨_, rfl⟩
  obtain ⟨x2, hx2⟩ : ∃ x, x = fld q 2 4 := ⟨_, rfl⟩
  obtain ⟨x3, hx3⟩ : ∃ x, x = fld q 6 4 := ⟨_, rfl⟩
  obtain ⟨x4, hx4⟩ : ∃ x, x = fld q 10 4 := ⟨_, rfl⟩
  obtain ⟨x5, hx5⟩ : ∃ x, x = fld q 14 4 := ⟨_, rfl⟩
  rw [← hx0] at hz0 hb0x hp
  rw [← hx1] at hz1 hb1x hp
  rw [← hx2] at hb2x hp
  rw [← hx3] at hb3x hp
  rw [← hx4] at hb4x hp
  rw [← hx5] at hb5x hp
  have HP := Lib.hid hp
  have HX := Lib.hid (And.intro hx2 (And.intro hx3 (And.intro hx4 hx5)))
  clear hx0 hx1 hx2 hx3 hx4 hx5 HRD HB0 hp hl hb
  obtain ⟨I, W, hne, hWI, hIW⟩ := Go.Mix.family (fun v => Below w2.heap.size w2 v) (Below.refl _ _)
  have HJ := Lib.hid hIW
  have HW := Lib.hid hWI
  clear hWI hIW
  refine Go.Flo3.wp_region (fun w' => ∃ i, w' = W i) 27 [Go.Flo.Spec.is (.int .u64 (x2 : Int)), Go.Flo.Spec.is (.int .u64 (x3 : Int)), Go.Flo.Spec.is (.int .u64 (x4 : Int)), Go.Flo.Spec.is (.int .u64 (x5 : Int)), Go.Flo.Spec.ptr w2.heap.size #[.int .u8 0, .int .i64 0, .int .i32 0, .int .i32 0, .int .u32 0, .int .u32 0] 93] (by kernel_rfl) (by kernel_rfl) (by decide) (by rintro _ w' ⟨i, rfl⟩ hb; exact HJ.out _ ((HW.out i).trans (hb.mono (HW.out i).size))) (HJ.out _ (Below.refl _ _).drew) ?_
  simp only [Go.Flo.pair, Go.Mix.calm, List.take, List.drop, if_true, Bool.false_eq_true, if_false, Nat.reduceAdd, Nat.reduceSub]
  have y0 : ∀ i, (W i).cell? ⟨b, off, none⟩ = some (.int .u8 (x0 : Int)) := fun i => ((HW.out i).cell (p := ⟨b, off, none⟩) hbs).trans hz0
  have y1 : ∀ i, (W i).cell? ⟨b, off + 1, none⟩ = some (.int .u8 (x1 : Int)) := fun i => ((HW.out i).cell (p := ⟨b, off + 1, none⟩) hbs).trans hz1
  clear hz0 hz1
  (repeat (first | (refine Go.Flo.fw_calm rfl ?_ (fun K hK => ?_); (first | exact Go.Mix.wanted_none rfl | exact Go.Mix.wanted_tt rfl rfl rfl | exact Go.Mix.wanted_ff rfl rfl rfl); go_big_quiet_op; refine hK _ ?_; clear hK K) | (refine Go.Flo.fw_skip ?_ (fun K hK => ?_); (first | exact Go.Mix.wanted_tf rfl rfl rfl | exact Go.Mix.wanted_ft rfl rfl rfl); go_simp; refine hK _ ?_; clear hK K) | (refine Go.Flo.fw_any rfl ?_ (fun K hK => ?_); (first | exact Go.Mix.wanted_none rfl | exact Go.Mix.wanted_tt rfl rfl rfl | exact Go.Mix.wanted_ff rfl rfl rfl); go_simp; (try (go_ints; try go_simp)); refine hK _ ?_; clear hK K)))
  refine Go.Flo.fw_loud rfl ?_ rfl (by simp) (fun wv hwv hav K hK => ?_) (fun v hv K hK => ?_)
  · (first | exact Go.Mix.wanted_none rfl | exact Go.Mix.wanted_tt rfl rfl rfl | exact Go.Mix.wanted_ff rfl rfl rfl)
  · obtain ⟨iv, rfl⟩ := hwv
    have hbv := HW.out iv
    (first | go_big_op | go_simp)
    go_at_call 98
    refine (HS.out 2 (by decide) _ hbv).mono ?_
    rintro e w' ⟨rfl, rfl⟩
    rw [← HX.out.1]
    exact hK _ _ (Go.Flo.owes_is _ rfl (Below.refl _ _))
  obtain rfl := hv.is
  go_simp
  refine hK _ ?_
  clear hK K hv
  (repeat (first | (refine Go.Flo.fw_calm rfl ?_ (fun K hK => ?_); (first | exact Go.Mix.wanted_none rfl | exact Go.Mix.wanted_tt rfl rfl rfl | exact Go.Mix.wanted_ff rfl rfl rfl); go_big_quiet_op; refine hK _ ?_; clear hK K) | (refine Go.Flo.fw_skip ?_ (fun K hK => ?_); (first | exact Go.Mix.wanted_tf rfl rfl rfl | exact Go.Mix.wanted_ft rfl rfl rfl); go_simp; refine hK _ ?_; clear hK K) | (refine Go.Flo.fw_any rfl ?_ (fun K hK => ?_); (first | exact Go.Mix.wanted_none rfl | exact Go.Mix.wanted_tt rfl rfl rfl | exact Go.Mix.wanted_ff rfl rfl rfl); go_simp; (try (go_ints; try go_simp)); refine hK _ ?_; clear hK K)))
  refine Go.Flo.fw_loud rfl ?_ rfl (by simp) (fun wv hwv hav K hK => ?_) (fun v hv K hK => ?_)
  · (first | exact Go.Mix.wanted_none rfl | exact Go.Mix.wanted_tt rfl rfl rfl | exact Go.Mix.wanted_ff rfl rfl rfl)
  · obtain ⟨iv, rfl⟩ := hwv
    have hbv := HW.out iv
    (first | go_big_op | go_simp)
    go_at_call 98
    refine (HS.out 6 (by decide) _ hbv).mono ?_
    rintro e w' ⟨rfl, rfl⟩
    rw [← HX.out.2.1]
    exact hK _ _ (Go.Flo.owes_is _ rfl (Below.refl _ _))
  obtain rfl := hv.is
  go_simp
  refine hK _ ?_
  clear hK K hv
  (repeat (first | (refine Go.Flo.fw_calm rfl ?_ (fun K hK => ?_); (first | exact Go.Mix.wanted_none rfl | exact Go.Mix.wanted_tt rfl rfl rfl | exact Go.Mix.wanted_ff rfl rfl rfl); go_big_quiet_op; refine hK _ ?_; clear hK K) | (refine Go.Flo.fw_skip ?_ (fun K hK => ?_); (first | exact Go.Mix.wanted_tf rfl rfl rfl | exact Go.Mix.wanted_ft rfl rfl rfl); go_simp; refine hK _ ?_; clear hK K) | (refine Go.Flo.fw_any rfl ?_ (fun K hK => ?_); (first | exact Go.Mix.wanted_none rfl | exact Go.Mix.wanted_tt rfl rfl rfl | exact Go.Mix.wanted_ff rfl rfl rfl); go_simp; (try (go_ints; try go_simp)); refine hK _ ?_; clear hK K)))
  refine Go.Flo.fw_loud rfl ?_ rfl (by simp) (fun wv hwv hav K hK => ?_) (fun v hv K hK => ?_)
  · (first | exact Go.Mix.wanted_none rfl | exact Go.Mix.wanted_tt rfl rfl rfl | exact Go.Mix.wanted_ff rfl rfl rfl)
  · obtain ⟨iv, rfl⟩ := hwv
    have hbv := HW.out iv
    (first | go_big_op | go_simp)
    go_at_call 98
    refine (HS.out 10 (by decide) _ hbv).mono ?_
    rintro e w' ⟨rfl, rfl⟩
    rw [← HX.out.2.2.1]
    exact hK _ _ (Go.Flo.owes_is _ rfl (Below.refl _ _))
  obtain rfl := hv.is
  go_simp
  refine hK _ ?_
  clear hK K hv
  (repeat (first | (refine Go.Flo.fw_calm rfl ?_ (fun K hK => ?_); (first | exact Go.Mix.wanted_none rfl | exact Go.Mix.wanted_tt rfl rfl rfl | exact Go.Mix.wanted_ff rfl rfl rfl); go_big_quiet_op; refine hK _ ?_; clear hK K) | (refine Go.Flo.fw_skip ?_ (fun K hK => ?_); (first | exact Go.Mix.wanted_tf rfl rfl rfl | exact Go.Mix.wanted_ft rfl rfl rfl); go_simp; refine hK _ ?_; clear hK K) | (refine Go.Flo.fw_any rfl ?_ (fun K hK => ?_); (first | exact Go.Mix.wanted_none rfl | exact Go.Mix.wanted_tt rfl rfl rfl | exact Go.Mix.wanted_ff rfl rfl rfl); go_simp; (try (go_ints; try go_simp)); refine hK _ ?_; clear hK K)))
  refine Go.Flo.fw_loud rfl ?_ rfl (by simp) (fun wv hwv hav K hK => ?_) (fun v hv K hK => ?_)
  · (first | exact Go.Mix.wanted_none rfl | exact Go.Mix.wanted_tt rfl rfl rfl | exact Go.Mix.wanted_ff rfl rfl rfl)
  · obtain ⟨iv, rfl⟩ := hwv
    have hbv := HW.out iv
    (first | go_big_op | go_simp)
    go_at_call 98
    refine (HS.out 14 (by decide) _ hbv).mono ?_
    rintro e w' ⟨rfl, rfl⟩
    rw [← HX.out.2.2.2]
    exact hK _ _ (Go.Flo.owes_is _ rfl (Below.refl _ _))
  obtain rfl := hv.is
  go_simp
  refine hK _ ?_
  clear hK K hv
  (repeat (first | (refine Go.Flo.fw_calm rfl ?_ (fun K hK => ?_); (first | exact Go.Mix.wanted_none rfl | exact Go.Mix.wanted_tt rfl rfl rfl | exact Go.Mix.wanted_ff rfl rfl rfl); go_big_quiet_op; refine hK _ ?_; clear hK K) | (refine Go.Flo.fw_skip ?_ (fun K hK => ?_); (first | exact Go.Mix.wanted_tf rfl rfl rfl | exact Go.Mix.wanted_ft rfl rfl rfl); go_simp; refine hK _ ?_; clear hK K) | (refine Go.Flo.fw_any rfl ?_ (fun K hK => ?_); (first | exact Go.Mix.wanted_none rfl | exact Go.Mix.wanted_tt rfl rfl rfl | exact Go.Mix.wanted_ff rfl rfl rfl); go_simp; (try (go_ints; try go_simp)); refine hK _ ?_; clear hK K)))
  refine Go.Flo.fw_loud rfl ?_ rfl (by simp) (fun wv hwv hav K hK => ?_) (fun v hv K hK => ?_)
  · (first | exact Go.Mix.wanted_none rfl | exact Go.Mix.wanted_tt rfl rfl rfl | exact Go.Mix.wanted_ff rfl rfl rfl)
  · obtain ⟨iv, rfl⟩ := hwv
    (first | go_big_op | go_simp)
    refine hK _ _ (Go.Flo.owes_ptr (HW.out iv).size)
  obtain ⟨x6, hx6, rfl, hnx6⟩ := hv.ptr rfl
  go_simp
  refine hK _ ?_
  clear hK K hv
  refine Go.Flo.fw_nil ?_
  intro w3 hww3 hfw3 huw3
  obtain ⟨iend, hiend⟩ := hww3
  have hbw3 := HW.out iend
  rw [← hiend] at hbw3
  clear hiend iend huw3
  have hC2 := Go.Flo.says_ptr ((hfw3 (some 4)).2 rfl).1
  have hC3 := setRow_heap _ _ _ #[.int .u8 (x0:Int), .int .i64 (x1:Int), .int .i32 (wrap32 (x2 : Int)), .int .i32 (wrap32 (x3 : Int)), .int .u32 ((x4 : Nat) : Int), .int .u32 ((x5 : Nat) : Int)] _ _ hC2
  have hB3 := Lib.hid (HB2.out.trans ((bel_row hbw3 hx6 #[.int .u8 (x0:Int), .int .i64 (x1:Int), .int .i32 (wrap32 (x2 : Int)), .int .i32 (wrap32 (x3 : Int)), .int .u32 ((x4 : Nat) : Int), .int .u32 ((x5 : Nat) : Int)]).mono HB2.out.size))
  have hne6 : g ≠ x6 := by have := hx6; omega
  have hC4 := (setRow_other w3 x6 g #[.int .u8 (x0:Int), .int .i64 (x1:Int), .int .i32 (wrap32 (x2 : Int)), .int .i32 (wrap32 (x3 : Int)), .int .u32 ((x4 : Nat) : Int), .int .u32 ((x5 : Nat) : Int)] hne6).trans (box_below g2 hbw3 (box_lt g2))
  clear hfw3 HJ HW hne y0 y1 hbw3 g2 HB2
  clear W I
  refine ⟨fun _ => True, trivial, ?_⟩

  (refine Go.Mix.walk_loud rfl ?_ (fun K hK => ?_); (first | exact Go.Mix.wanted_none rfl | exact Go.Mix.wanted_tt rfl rfl rfl | exact Go.Mix.wanted_ff rfl rfl rfl); refine wp_store_row 93 _ _ rfl _ #[.int .u8 (x0:Int), .int .i64 (x1:Int), .int .i32 (wrap32 (x2 : Int)), .int .i32 (wrap32 (x3 : Int)), .int .u32 ((x4 : Nat) : Int), .int .u32 ((x5 : Nat) : Int)] rfl rfl 93 _ hC2 size_rd' rfl (by simp [Value.oneCell']) (hK _ _ trivial ?_); clear hK K)
  (repeat (first | (refine Go.Mix.walk_calm rfl ?_ (fun K hK => ?_); (first | exact Go.Mix.wanted_none rfl | exact Go.Mix.wanted_tt rfl rfl rfl | exact Go.Mix.wanted_ff rfl rfl rfl); go_big_quiet_op; refine hK _ ?_; clear hK K) | (refine Go.Mix.walk_skip ?_ (fun K hK => ?_); (first | exact Go.Mix.wanted_tf rfl rfl rfl | exact Go.Mix.wanted_ft rfl rfl rfl); go_simp; refine hK _ ?_; clear hK K) | (refine Go.Mix.walk_loud rfl ?_ (fun K hK => ?_); (first | exact Go.Mix.wanted_none rfl | exact Go.Mix.wanted_tt rfl rfl rfl | exact Go.Mix.wanted_ff rfl rfl rfl); (first | go_big_op | go_simp); (first | (refine hK _ _ trivial ?_; clear hK K) | (fail; (try dsimp only); refine hK _ _ trivial ?_; clear hK K))) | (refine Go.Mix.walk_step (fun K hK => ?_); go_simp; (try (go_ints; try go_simp)); refine hK _ _ ?_; clear hK K)))
  refine Go.Mix.walk_nil ?_
  obtain ⟨w4, hw4⟩ : ∃ w4, w4 = w3.setRow x6 #[.int .u8 (x0:Int), .int .i64 (x1:Int), .int .i32 (wrap32 (x2 : Int)), .int .i32 (wrap32 (x3 : Int)), .int .u32 ((x4 : Nat) : Int), .int .u32 ((x5 : Nat) : Int)] := ⟨_, rfl⟩
  rw [← hw4] at hC3 hB3 hC4 ⊢
  clear hw4 hC2 hx6 hnx6 hgx HS
  have a0 := cell_of_row _ _ 0 _ _ _ hC3
  have a1 := cell_of_row _ _ 1 _ _ _ hC3
  have a2 := cell_of_row _ _ 2 _ _ _ hC3
  have a3 := cell_of_row _ _ 3 _ _ _ hC3
  have a4 := cell_of_row _ _ 4 _ _ _ hC3
  have a5 := cell_of_row _ _ 5 _ _ _ hC3
  cases hrt : (Df.mk x0 x1 (wrap32 x2) (wrap32 x3) x4 x5).right
  · go_wp2_with fail
    go_at_call 45
    refine (rRightD x0 x1 (wrap32 x2) (wrap32 x3) x4 x5 false _ hrt).mono ?_
    rintro e w5 ⟨rfl, hb5⟩
    have g5 := box_below hC4 hb5 (box_lt hC4)
    have HB5 := Lib.hid (hB3.out.trans (hb5.mono hB3.out.size))
    have hp := HP.out
    rw [hrt, if_neg (by decide)] at hp
    obtain ⟨h6, h7⟩ := Prod.mk.inj hp
    obtain ⟨rfl, rfl, rfl, rfl, rfl, rfl⟩ := Df.mk.inj h6
    subst h7
    clear hC3 hC4 hB3 hb5 a0 a1 a2 a3 a4 a5 hp h6 HP hrt
    go_wp2_with (refine wpList_store_row rfl 93 _ _ rfl _ _ rfl rfl _ _ g5 (by exact size_rd') (by rfl) (by simp [Value.oneCell']) ?_; (try go_simp))
    refine bodyPost_ret (res_ct rfl _ _ _ _ _ _ rfl (setRow_heap _ _ _ _ _ _ g5) Try.underlying93 rfl size_rd') rfl ?_
    exact ⟨rfl, bel_row HB5.out hgg _⟩
  · go_wp2_with fail
    go_at_call 45
    refine (rRightD x0 x1 (wrap32 x2) (wrap32 x3) x4 x5 true _ hrt).mono ?_
    rintro e w5 ⟨rfl, hb5⟩
    have g5 := box_below hC4 hb5 (box_lt hC4)
    have g6 := box_below hC3 hb5 (box_lt hC3)
    have HB5 := Lib.hid (hB3.out.trans (hb5.mono hB3.out.size))
    have hp := HP.out
    rw [hrt, if_pos rfl] at hp
    obtain ⟨h6, h7⟩ := Prod.mk.inj hp
    obtain ⟨rfl, rfl, rfl, rfl, rfl, rfl⟩ := Df.mk.inj h6
    subst h7
    clear hC3 hC4 hB3 hb5 a0 a1 a2 a3 a4 a5 hp h6 HP hrt
    have a0 := cell_of_row _ _ 0 _ _ _ g6
    have a1 := cell_of_row _ _ 1 _ _ _ g6
    have a2 := cell_of_row _ _ 2 _ _ _ g6
    have a3 := cell_of_row _ _ 3 _ _ _ g6
    have a4 := cell_of_row _ _ 4 _ _ _ g6
    have a5 := cell_of_row _ _ 5 _ _ _ g6
    go_wp2_with (refine wpList_store_row rfl 93 _ _ rfl _ _ rfl rfl _ _ g5 (by exact size_rd') (by rfl) (by simp [Value.oneCell']) ?_; (try go_simp))
    refine bodyPost_ret (res_ct rfl _ _ _ _ _ _ rfl (setRow_heap _ _ _ _ _ _ g5) Try.underlying93 rfl size_rd') rfl ?_
    exact ⟨rfl, bel_row HB5.out hgg _⟩
end Go.Proofs.Ytbomkneajmgckaa
