/- Monitors: one step. -/
import Derived.Test.YtkgeeohgfbacaaaMnC
import Derived.Test.YtkgeeohgfbacaaaLaw15w
import Derived.Deep.CutBlock
import Derived.Deep.DeepCutAuto
namespace Go.Proofs.Ytkgeeohgfbacaaa
open Go.RowKit Go.Own
set_option linter.unusedVariables false
set_option linter.unusedSimpArgs false
/-- How often it has been found. -/
def timesOf (cand times f rep : Int) : Int := if f = 0 then 0 else if f = cand then min times (rep - 1) + 1 else 1
set_option maxRecDepth 100000 in
set_option maxHeartbeats 2000000 in
theorem with_at (any : Bool) (val cand times now f rep t : Int) (w : World) (r1 : 1 ≤ rep) (r2 : rep ≤ 255) (t0 : 0 ≤ times) (ht : timesOf cand times f rep = t) :
    Calls Try.prog 149 #[.agg #[.bool any, .int .i32 val, .int .u8 cand, .int .u8 times], .int .i32 now, .int .u8 f, .int .u8 rep] w fun e w' => e = .returned (.agg #[.bool true, .int .i32 now, .int .u8 f, .int .u8 t]) ∧ Below w.heap.size w w' := by
  unfold timesOf at ht
  by_cases h0 : f = 0
  · subst h0
    rw [if_pos rfl] at ht
    subst ht
    go_enter Try.func149, Try.ntmps149
    go_wp2
    exact bodyPost_ret (v := .agg #[.bool true, .int .i32 now, .int .u8 0, .int .u8 0]) (by simp [results, Try.results149, go_sem]) rfl ⟨rfl, by repeat' (first | (with_reducible exact Below.refl _ _) | (with_reducible assumption) | (with_reducible refine Below.setCell ?_ ?_ _) | (with_reducible refine Below.alloc ?_ ?_ _) | (with_reducible refine Below.drew ?_) | (with_reducible refine Below.drawsN ?_ _) | go_size)⟩
  rw [if_neg h0] at ht
  have e0 : (f == 0) = false := by simp [h0]
  by_cases h1 : f = cand
  · rw [if_pos h1] at ht
    subst h1
    have hmn := fun (w : World) => run_minC (P := Try.prog) #[5, 5] 5 .u8 times (rep - 1) w
    obtain ⟨x, hx⟩ : ∃ x, x = min times (rep - 1) := ⟨_, rfl⟩
    rw [← hx] at hmn ht
    have hx0 : 0 ≤ x := by omega
    have hx1 : x + 1 ≤ 255 := by omega
    subst ht
    clear h0 hx
    go_enter Try.func149, Try.ntmps149
    go_wp2
    exact bodyPost_ret (v := .agg #[.bool true, .int .i32 now, .int .u8 f, .int .u8 (x + 1)]) (by simp [results, Try.results149, go_sem]) rfl ⟨rfl, by repeat' (first | (with_reducible exact Below.refl _ _) | (with_reducible assumption) | (with_reducible refine Below.setCell ?_ ?_ _) | (with_reducible refine Below.alloc ?_ ?_ _) | (with_reducible refine Below.drew ?_) | (with_reducible refine Below.drawsN ?_ _) | go_size)⟩
  · rw [if_neg h1] at ht
    subst ht
    have e1 : (f == cand) = false := by simp [h1]
    clear h0 h1
    go_enter Try.func149, Try.ntmps149
    go_wp2
    exact bodyPost_ret (v := .agg #[.bool true, .int .i32 now, .int .u8 f, .int .u8 1]) (by simp [results, Try.results149, go_sem]) rfl ⟨rfl, by repeat' (first | (with_reducible exact Below.refl _ _) | (with_reducible assumption) | (with_reducible refine Below.setCell ?_ ?_ _) | (with_reducible refine Below.alloc ?_ ?_ _) | (with_reducible refine Below.drew ?_) | (with_reducible refine Below.drawsN ?_ _) | go_size)⟩
/-- A rule at work, one step on. -/
def Wt.look (q : Wt) (now : Int) : Int := q.r.d.look now q.val (!q.any)
def Wt.step (q : Wt) (now : Int) : Wt :=
  let f := q.look now
  let t := timesOf q.cand q.times f q.r.rep
  ⟨q.r, true, now, f, t, if t = q.r.rep then f else q.st⟩
structure Wt.ok (q : Wt) : Prop where
  r : q.r.ok
  rt : q.r.right = true
  v0 : -2147483648 ≤ q.val
  v1 : q.val ≤ 2147483647
  c0 : 0 ≤ q.cand
  c1 : q.cand ≤ 4
  t0 : 0 ≤ q.times
  t1 : q.times ≤ 255
  s0 : 0 ≤ q.st
  s1 : q.st ≤ 4
theorem Rl.right_rep {r : Rl} (h : r.right = true) : 1 ≤ r.rep ∧ r.d.right = true := by
  simp only [Rl.right, Bool.and_eq_true, decide_eq_true_eq] at h
  exact ⟨h.1.1.1.2, h.1.1.1.1⟩
theorem Wt.step_ok {q : Wt} {now : Int} (h : q.ok) (n0 : -2147483648 ≤ now) (n1 : now ≤ 2147483647) : (q.step now).ok := by
  have h1 := q.r.d.look_04 now q.val (!q.any)
  have h2 := (Rl.right_rep h.rt).1
  have h3 := h.r.rep1
  have h4 := h.t0
  have h5 := h.s0
  have h6 := h.s1
  have ht : 0 ≤ timesOf q.cand q.times (q.look now) q.r.rep ∧ timesOf q.cand q.times (q.look now) q.r.rep ≤ 255 := by
    unfold timesOf
    split
    · omega
    split
    · omega
    · omega
  refine ⟨h.r, h.rt, n0, n1, h1.1, h1.2, ht.1, ht.2, ?_, ?_⟩
  · show 0 ≤ (if timesOf q.cand q.times (q.look now) q.r.rep = q.r.rep then q.look now else q.st)
    split
    · exact h1.1
    · exact h5
  · show (if timesOf q.cand q.times (q.look now) q.r.rep = q.r.rep then q.look now else q.st) ≤ 4
    split
    · exact h1.2
    · exact h6
set_option maxRecDepth 100000 in
set_option maxHeartbeats 4000000 in
theorem wStep (q : Wt) (now : Int) (q2 : Wt) (w : World) (h : q.ok) (n0 : -2147483648 ≤ now) (n1 : now ≤ 2147483647) (hq : q.step now = q2) :
    Calls Try.prog 108 #[.agg q.cs, .int .i32 now] w fun e w' => e = .returned (.agg q2.cs) ∧ Below w.heap.size w w' := by
  have hb0 : Below w.heap.size w ((w.alloc (.cells q.cs 121)).alloc (.cells (#[.int .u8 0, .int .i64 0, .int .i32 0, .int .i32 0, .int .u32 0, .int .u32 0, .int .u8 0, .int .u8 0, .int .u8 0, .int .i64 0, .bool false, .bool false, .int .i32 0, .int .u8 0, .int .u8 0, .int .u8 0] : Array Value) 121)) := by repeat' (first | (with_reducible exact Below.refl _ _) | (with_reducible assumption) | (with_reducible refine Below.setCell ?_ ?_ _) | (with_reducible refine Below.alloc ?_ ?_ _) | (with_reducible refine Below.drew ?_) | (with_reducible refine Below.drawsN ?_ _) | go_size)
  have g0 := heap_alloc2_old w (.cells q.cs 121) (.cells (#[.int .u8 0, .int .i64 0, .int .i32 0, .int .i32 0, .int .u32 0, .int .u32 0, .int .u8 0, .int .u8 0, .int .u8 0, .int .i64 0, .bool false, .bool false, .int .i32 0, .int .u8 0, .int .u8 0, .int .u8 0] : Array Value) 121)
  have g1 := heap_alloc2_new w (.cells q.cs 121) (.cells (#[.int .u8 0, .int .i64 0, .int .i32 0, .int .i32 0, .int .u32 0, .int .u32 0, .int .u8 0, .int .u8 0, .int .u8 0, .int .i64 0, .bool false, .bool false, .int .i32 0, .int .u8 0, .int .u8 0, .int .u8 0] : Array Value) 121)
  have HK := Lib.hid h
  have HQ := Lib.hid hq
  obtain ⟨f, hf⟩ : ∃ f, q.look now = f := ⟨_, rfl⟩
  obtain ⟨t, ht⟩ : ∃ t, timesOf q.cand q.times f q.r.rep = t := ⟨_, rfl⟩
  have HF := Lib.hid (And.intro hf ht)
  clear h hq hf ht
  have a0 : _ = some (Value.int .u8 q.r.d.k) := cell_of_row _ _ 0 _ _ _ g0
  have a1 : _ = some (Value.int .i64 q.r.d.p) := cell_of_row _ _ 1 _ _ _ g0
  have a2 : _ = some (Value.int .i32 q.r.d.l) := cell_of_row _ _ 2 _ _ _ g0
  have a3 : _ = some (Value.int .i32 q.r.d.h) := cell_of_row _ _ 3 _ _ _ g0
  have a4 : _ = some (Value.int .u32 ((q.r.d.m : Nat) : Int)) := cell_of_row _ _ 4 _ _ _ g0
  have a5 : _ = some (Value.int .u32 ((q.r.d.n : Nat) : Int)) := cell_of_row _ _ 5 _ _ _ g0
  have a6 : _ = some (Value.int .u8 q.r.rep) := cell_of_row _ _ 6 _ _ _ g0
  have a11 : _ = some (Value.bool q.any) := cell_of_row _ _ 11 _ _ _ g0
  have a12 : _ = some (Value.int .i32 q.val) := cell_of_row _ _ 12 _ _ _ g0
  have a13 : _ = some (Value.int .u8 q.cand) := cell_of_row _ _ 13 _ _ _ g0
  have a14 : _ = some (Value.int .u8 q.times) := cell_of_row _ _ 14 _ _ _ g0
  have a15 : _ = some (Value.int .u8 q.st) := cell_of_row _ _ 15 _ _ _ g0
  go_enter Try.func108, Try.ntmps108
  go_wp2_with fail
  obtain ⟨e, hg⟩ : ∃ g, g = w.heap.size + 1 := ⟨_, rfl⟩
  obtain ⟨g, hg2⟩ : ∃ g, g = w.heap.size := ⟨_, rfl⟩
  have HG := Lib.hid (show w.heap.size ≤ g ∧ w.heap.size ≤ e ∧ g ≠ e by omega)
  obtain ⟨wa, hwa⟩ : ∃ wa, wa = ((w.alloc (.cells q.cs 121)).alloc (.cells (#[.int .u8 0, .int .i64 0, .int .i32 0, .int .i32 0, .int .u32 0, .int .u32 0, .int .u8 0, .int .u8 0, .int .u8 0, .int .i64 0, .bool false, .bool false, .int .i32 0, .int .u8 0, .int .u8 0, .int .u8 0] : Array Value) 121)) := ⟨_, rfl⟩
  rw [← hwa] at hb0 g0 g1 ⊢
  rw [← hg] at g1 ⊢
  rw [← hg2] at g0 ⊢
  clear hwa hg hg2 a0 a1 a2 a3 a4 a5 a6 a11 a12 a13 a14 a15
  go_at_call 148
  refine (Look_at q.r.d.k q.r.d.p q.r.d.l q.r.d.h q.r.d.m q.r.d.n now q.val (!q.any) f _ HK.out.r.d n0 n1 HK.out.v0 HK.out.v1 HF.out.1).mono ?_
  rintro _ w1 ⟨rfl, hb⟩
  have g2 := box_below g0 hb (box_lt g0)
  have g3 := box_below g1 hb (box_lt g1)
  have HB1 := Lib.hid (hb0.trans (hb.mono hb0.size))
  clear g0 g1 hb hb0
  have a0 : _ = some (Value.int .u8 q.r.d.k) := cell_of_row _ _ 0 _ _ _ g2
  have a1 : _ = some (Value.int .i64 q.r.d.p) := cell_of_row _ _ 1 _ _ _ g2
  have a2 : _ = some (Value.int .i32 q.r.d.l) := cell_of_row _ _ 2 _ _ _ g2
  have a3 : _ = some (Value.int .i32 q.r.d.h) := cell_of_row _ _ 3 _ _ _ g2
  have a4 : _ = some (Value.int .u32 ((q.r.d.m : Nat) : Int)) := cell_of_row _ _ 4 _ _ _ g2
  have a5 : _ = some (Value.int .u32 ((q.r.d.n : Nat) : Int)) := cell_of_row _ _ 5 _ _ _ g2
  have a6 : _ = some (Value.int .u8 q.r.rep) := cell_of_row _ _ 6 _ _ _ g2
  have a11 : _ = some (Value.bool q.any) := cell_of_row _ _ 11 _ _ _ g2
  have a12 : _ = some (Value.int .i32 q.val) := cell_of_row _ _ 12 _ _ _ g2
  have a13 : _ = some (Value.int .u8 q.cand) := cell_of_row _ _ 13 _ _ _ g2
  have a14 : _ = some (Value.int .u8 q.times) := cell_of_row _ _ 14 _ _ _ g2
  have a15 : _ = some (Value.int .u8 q.st) := cell_of_row _ _ 15 _ _ _ g2
  go_wp2_with fail
  go_at_call 149
  refine (with_at q.any q.val q.cand q.times now f q.r.rep t _ (Rl.right_rep HK.out.rt).1 HK.out.r.rep1 HK.out.t0 HF.out.2).mono ?_
  rintro _ w2 ⟨rfl, hb⟩
  have g4 := box_below g2 hb (box_lt g2)
  have g5 := box_below g3 hb (box_lt g3)
  have HB2 := Lib.hid (HB1.out.trans (hb.mono HB1.out.size))
  clear g2 g3 hb HB1 a0 a1 a2 a3 a4 a5 a6 a11 a12 a13 a14 a15
  have a0 : _ = some (Value.int .u8 q.r.d.k) := cell_of_row _ _ 0 _ _ _ g4
  have a1 : _ = some (Value.int .i64 q.r.d.p) := cell_of_row _ _ 1 _ _ _ g4
  have a2 : _ = some (Value.int .i32 q.r.d.l) := cell_of_row _ _ 2 _ _ _ g4
  have a3 : _ = some (Value.int .i32 q.r.d.h) := cell_of_row _ _ 3 _ _ _ g4
  have a4 : _ = some (Value.int .u32 ((q.r.d.m : Nat) : Int)) := cell_of_row _ _ 4 _ _ _ g4
  have a5 : _ = some (Value.int .u32 ((q.r.d.n : Nat) : Int)) := cell_of_row _ _ 5 _ _ _ g4
  have a6 : _ = some (Value.int .u8 q.r.rep) := cell_of_row _ _ 6 _ _ _ g4
  have a11 : _ = some (Value.bool q.any) := cell_of_row _ _ 11 _ _ _ g4
  have a12 : _ = some (Value.int .i32 q.val) := cell_of_row _ _ 12 _ _ _ g4
  have a13 : _ = some (Value.int .u8 q.cand) := cell_of_row _ _ 13 _ _ _ g4
  have a14 : _ = some (Value.int .u8 q.times) := cell_of_row _ _ 14 _ _ _ g4
  have a15 : _ = some (Value.int .u8 q.st) := cell_of_row _ _ 15 _ _ _ g4
  have f11 := frozen_of_row _ g 11 _ _ g4
  have f12 := frozen_of_row _ g 12 _ _ g4
  have f13 := frozen_of_row _ g 13 _ _ g4
  have f14 := frozen_of_row _ g 14 _ _ g4
  have f15 := frozen_of_row _ g 15 _ _ g4
  have hq2 : q2 = Wt.mk q.r true now f t (if t = q.r.rep then f else q.st) := by rw [← HQ.out, Wt.step, HF.out.1, HF.out.2]
  have h3 : ((((w2.setCell ⟨g, 11, none⟩ (.bool true)).setCell ⟨g, 12, none⟩ (.int .i32 now)).setCell ⟨g, 13, none⟩ (.int .u8 f)).setCell ⟨g, 14, none⟩ (.int .u8 t)).heap[g]? = some (.cells (Wt.mk q.r true now f t q.st).cs 121 (0, 0)) :=
    heap_setCell_same _ g 14 _ _ _ (heap_setCell_same _ g 13 _ _ _ (heap_setCell_same _ g 12 _ _ _ (heap_setCell_same w2 g 11 _ _ _ g4)))
  have h4 : ((((w2.setCell ⟨g, 11, none⟩ (.bool true)).setCell ⟨g, 12, none⟩ (.int .i32 now)).setCell ⟨g, 13, none⟩ (.int .u8 f)).setCell ⟨g, 14, none⟩ (.int .u8 t)).heap[e]? = some (.cells (#[.int .u8 0, .int .i64 0, .int .i32 0, .int .i32 0, .int .u32 0, .int .u32 0, .int .u8 0, .int .u8 0, .int .u8 0, .int .i64 0, .bool false, .bool false, .int .i32 0, .int .u8 0, .int .u8 0, .int .u8 0] : Array Value) 121 (0, 0)) :=
    (heap_setCell_other _ ⟨g, 14, none⟩ e _ (Ne.symm HG.out.2.2)).trans ((heap_setCell_other _ ⟨g, 13, none⟩ e _ (Ne.symm HG.out.2.2)).trans ((heap_setCell_other _ ⟨g, 12, none⟩ e _ (Ne.symm HG.out.2.2)).trans ((heap_setCell_other _ ⟨g, 11, none⟩ e _ (Ne.symm HG.out.2.2)).trans g5)))
  have h5 : Below w.heap.size w ((((w2.setCell ⟨g, 11, none⟩ (.bool true)).setCell ⟨g, 12, none⟩ (.int .i32 now)).setCell ⟨g, 13, none⟩ (.int .u8 f)).setCell ⟨g, 14, none⟩ (.int .u8 t)) :=
    (((HB2.out.setCell (p := ⟨g, 11, none⟩) HG.out.1 _).setCell (p := ⟨g, 12, none⟩) HG.out.1 _).setCell (p := ⟨g, 13, none⟩) HG.out.1 _).setCell (p := ⟨g, 14, none⟩) HG.out.1 _
  have HS := Lib.hid (And.intro h3 (And.intro h4 h5))
  have HQ2 := Lib.hid hq2
  clear hq2 h3 h4 h5 g4 g5 HB2
  by_cases htr : t = q.r.rep
  · have htr2 : (t == q.r.rep) = true := by simp [htr]
    have hq3 := HQ2.out
    rw [if_pos htr] at hq3
    have HQ3 := Lib.hid hq3
    clear htr hq3
    go_upto_region 4 with fail
    skip
    obtain ⟨w3, hw3⟩ : ∃ w3, w3 = ((((w2.setCell ⟨g, 11, none⟩ (.bool true)).setCell ⟨g, 12, none⟩ (.int .i32 now)).setCell ⟨g, 13, none⟩ (.int .u8 f)).setCell ⟨g, 14, none⟩ (.int .u8 t)) := ⟨_, rfl⟩
    rw [← hw3] at HS ⊢
    clear hw3 a0 a1 a2 a3 a4 a5 a6 a11 a12 a13 a14 a15 f11 f12 f13 f14 f15
    have c13 : _ = some (Value.int .u8 f) := cell_of_row _ _ 13 _ _ _ HS.out.1
    have c15 : _ = some (Value.int .u8 q.st) := cell_of_row _ _ 15 _ _ _ HS.out.1
    have f15 := frozen_of_row _ g 15 _ _ HS.out.1
    have h6 := heap_setCell_same _ g 15 _ _ (.int .u8 f) HS.out.1
    have h7 := (heap_setCell_other _ ⟨g, 15, none⟩ e (.int .u8 f) (Ne.symm HG.out.2.2)).trans HS.out.2.1
    have H8 := Lib.hid (HS.out.2.2.setCell (p := ⟨g, 15, none⟩) HG.out.1 (.int .u8 f))
    rw [show (Wt.mk q.r true now f t q.st).cs.setIfInBounds 15 (.int .u8 f) = q2.cs from (congrArg Wt.cs HQ3.out).symm] at h6
    have H6 := Lib.hid h6
    have H7 := Lib.hid h7
    clear h6 h7 HS
    go_upto_region 5 with fail
    obtain ⟨w4, hw4⟩ : ∃ w4, w4 = w3.setCell ⟨g, 15, none⟩ (.int .u8 f) := ⟨_, rfl⟩
    rw [← hw4] at H6 H7 H8 ⊢
    clear hw4 c13 c15 f15
    skip
    go_wp2_with (first | (refine wpList_load_row rfl 121 _ rfl _ rfl _ _ _ _ H6.out Try.underlying121 rfl (by exact size_wt q2) ?_; (try go_simp)) | (refine wpList_store_row rfl 121 _ _ rfl _ (Wt.cs _) rfl rfl 121 _ H7.out (size_wt _) rfl (Wt.one _) ?_; (try go_simp)))
    refine bodyPost_ret (results_cell_row rfl _ _ _ _ q2.cs _ _ rfl (setRow_heap _ _ _ _ _ _ H7.out) Try.underlying121 rfl (size_wt q2)) rfl ?_
    exact ⟨rfl, bel_row H8.out HG.out.2.1 _⟩
  · have htr2 : (t == q.r.rep) = false := by simp [htr]
    have hq3 := HQ2.out
    rw [if_neg htr] at hq3
    have HQ3 := Lib.hid hq3
    clear htr hq3
    go_upto_region 5 with fail
    skip
    obtain ⟨w3, hw3⟩ : ∃ w3, w3 = ((((w2.setCell ⟨g, 11, none⟩ (.bool true)).setCell ⟨g, 12, none⟩ (.int .i32 now)).setCell ⟨g, 13, none⟩ (.int .u8 f)).setCell ⟨g, 14, none⟩ (.int .u8 t)) := ⟨_, rfl⟩
    rw [← hw3] at HS ⊢
    clear hw3 a0 a1 a2 a3 a4 a5 a6 a11 a12 a13 a14 a15 f11 f12 f13 f14 f15
    have H6 := Lib.hid HS.out.1
    have H7 := Lib.hid HS.out.2.1
    have H8 := Lib.hid HS.out.2.2
    rw [show (Wt.mk q.r true now f t q.st).cs = q2.cs from (congrArg Wt.cs HQ3.out).symm] at H6
    clear HS
    skip
    go_wp2_with (first | (refine wpList_load_row rfl 121 _ rfl _ rfl _ _ _ _ H6.out Try.underlying121 rfl (by exact size_wt q2) ?_; (try go_simp)) | (refine wpList_store_row rfl 121 _ _ rfl _ (Wt.cs _) rfl rfl 121 _ H7.out (size_wt _) rfl (Wt.one _) ?_; (try go_simp)))
    refine bodyPost_ret (results_cell_row rfl _ _ _ _ q2.cs _ _ rfl (setRow_heap _ _ _ _ _ _ H7.out) Try.underlying121 rfl (size_wt q2)) rfl ?_
    exact ⟨rfl, bel_row H8.out HG.out.2.1 _⟩
end Go.Proofs.Ytkgeeohgfbacaaa
