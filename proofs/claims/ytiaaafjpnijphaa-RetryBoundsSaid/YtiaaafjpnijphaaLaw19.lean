/- Layer 19: the document's example. -/
import Derived.Test.YtiaaafjpnijphaaRt3
import Derived.Deep.CutBlock
import Derived.Deep.DeepCutAuto
namespace Go.Proofs.Ytiaaafjpnijphaa
open Go.RowKit Go.Own
set_option linter.unusedVariables false
set_option linter.unusedSimpArgs false
theorem wpLoadG {P : Program} {ops : Array Oper} {rest : List Oper} {o : Oper} {a : Act} {w : World} {Q : Exit → Act → World → Prop} (hwt : Region.wanted o (yielded ops a.tmps) = true) (ty : TypeId) (x : Operand) (ho : o.op = .load ty x)
    (g : Nat) (hx : a.eval x = .pointer (some ⟨g, 0, none⟩)) (t : TypeId) (cs : Array Value) (fr : Nat × Nat) (d : TypeDesc) (hg : w.heap[g]? = some (.cells cs t fr))
    (hu : P.underlying ty = some d) (hd : (match d with | .struct _ | .array _ _ => true | _ => false) = true) (hi : (P.info? ty).map (·.size) = some cs.size)
    (h : wpList P ops Q rest (a.put o.dst (.agg cs)) w) : wpList P ops Q (o :: rest) a w := by
  unfold wpList
  rw [if_pos hwt]
  exact .inl (wp_load_row ty x ho g hx t cs fr d hg hu hd hi h)
theorem rd_oneR {w : World} {g : Nat} {x : Int} {t : TypeId} (h : w.heap[g]? = some (.cells #[.int .i64 x] t (0, 0))) : Rd w.heap.size w (some ⟨g, 0, none⟩) 1 1 (Bs.iv [x]) :=
  ⟨Nat.le_refl _, by unfold maxLen; omega, (fun h => by cases h), fun _ => ⟨_, _, rfl, box_lt h, fun i hi => by
    obtain rfl : i = 0 := by omega
    exact cell_of_row _ _ 0 _ _ _ h⟩⟩
def lm2 : Lm := ⟨2, 0, 0, 0, 0, 0⟩
theorem lm2_ok : lm2.Ok := by constructor <;> decide
theorem def_ok : cxDef.Ok := by constructor <;> decide
def cxA : Cx := cxDef.setR 0 1
def cxB2 : Cx := cxDef.setR 0 2
theorem cxA_ok : cxA.Ok := by constructor <;> decide
theorem cxB_ok : cxB2.Ok := by constructor <;> decide
theorem sp1 : spendR lm2 cxDef [0] = (cxA, true) := by decide
theorem sp2 : spendR lm2 cxA [0] = (cxB2, true) := by decide
theorem sp3 : spendR lm2 cxB2 [0] = (cxB2, false) := by decide
theorem totB : cxB2.tot = 2 := by decide
/-- One role, once more. -/
theorem Spend_one {m : Lm} {c d : Cx} {b : Bool} {g : Nat} {x : Int} {t : TypeId} (w : World) (hm : m.Ok) (hok : c.Ok) (hg : w.heap[g]? = some (.cells #[.int .i64 x] t (0, 0))) (h : spendR m c [x] = (d, b)) :
    Calls Try.prog 64 #[.agg #[.int .u8 m.l0, .int .u8 m.l1, .int .u8 m.l2, .int .u8 m.l3, .int .u8 m.l4, .int .u8 m.l5], .agg #[.int .u16 c.f, .int .u16 c.i, .int .u8 c.r0, .int .u8 c.r1, .int .u8 c.r2, .int .u8 c.r3, .int .u8 c.r4, .int .u8 c.r5, .int .i8 c.c0, .int .i8 c.c1, .int .i8 c.c2, .int .i8 c.c3, .int .i8 c.c4, .int .i8 c.c5, .int .u8 c.m, .int .u16 c.n, .bool c.x, .int .u8 c.h], .slice (some ⟨g, 0, none⟩) 1 1] w fun e w' => e = .returned (.tuple #[.agg #[.int .u16 d.f, .int .u16 d.i, .int .u8 d.r0, .int .u8 d.r1, .int .u8 d.r2, .int .u8 d.r3, .int .u8 d.r4, .int .u8 d.r5, .int .i8 d.c0, .int .i8 d.c1, .int .i8 d.c2, .int .i8 d.c3, .int .i8 d.c4, .int .i8 d.c5, .int .u8 d.m, .int .u16 d.n, .bool d.x, .int .u8 d.h], .bool b]) ∧ Below w.heap.size w w' :=
  Spend_det _ 1 1 _ [x] w hm hok rfl (Nat.le_refl _) (rd_oneR hg) h
/-- Limits and a context, in boxes. -/
structure AwSt (w wr : World) (g0 g : Nat) (m : Lm) (c : Cx) : Prop where
  be : Below w.heap.size w wr
  hg : w.heap.size ≤ g
  ne : g0 ≠ g
  bm : wr.heap[g0]? = some (.cells #[.int .u8 m.l0, .int .u8 m.l1, .int .u8 m.l2, .int .u8 m.l3, .int .u8 m.l4, .int .u8 m.l5] 129 (0, 0))
  bc : wr.heap[g]? = some (.cells #[.int .u16 c.f, .int .u16 c.i, .int .u8 c.r0, .int .u8 c.r1, .int .u8 c.r2, .int .u8 c.r3, .int .u8 c.r4, .int .u8 c.r5, .int .i8 c.c0, .int .i8 c.c1, .int .i8 c.c2, .int .i8 c.c3, .int .i8 c.c4, .int .i8 c.c5, .int .u8 c.m, .int .u16 c.n, .bool c.x, .int .u8 c.h] 131 (0, 0))
theorem AwSt.step {w wr w' : World} {g0 g : Nat} {m : Lm} {c : Cx} (h : AwSt w wr g0 g m c) (hb : Below wr.heap.size wr w') : AwSt w w' g0 g m c :=
  ⟨h.be.trans (hb.mono h.be.size), h.hg, h.ne, box_below h.bm hb (box_lt h.bm), box_below h.bc hb (box_lt h.bc)⟩
theorem AwSt.put {w wr : World} {g0 g : Nat} {m : Lm} {c : Cx} (h : AwSt w wr g0 g m c) (d : Cx) : AwSt w (wr.setRow g #[.int .u16 d.f, .int .u16 d.i, .int .u8 d.r0, .int .u8 d.r1, .int .u8 d.r2, .int .u8 d.r3, .int .u8 d.r4, .int .u8 d.r5, .int .i8 d.c0, .int .i8 d.c1, .int .i8 d.c2, .int .i8 d.c3, .int .i8 d.c4, .int .i8 d.c5, .int .u8 d.m, .int .u16 d.n, .bool d.x, .int .u8 d.h]) g0 g m d :=
  ⟨bel_rowR h.be h.hg _, h.hg, h.ne, (setRow_other _ g g0 _ h.ne).trans h.bm, setRow_heap _ g _ _ _ _ h.bc⟩
set_option maxRecDepth 100000 in
set_option maxHeartbeats 4000000 in
theorem awake19 (w : World) : Calls Try.prog 62 #[] w fun e w' => e = .returned (.bool true) ∧ Below w.heap.size w w' := by
  have hzc := zero_cx
  have h0 := heap_alloc_new w (.cells #[.int .u8 2, .int .u8 0, .int .u8 0, .int .u8 0, .int .u8 0, .int .u8 0] 129)
  have hb0 : Below w.heap.size w (w.alloc (.cells #[.int .u8 2, .int .u8 0, .int .u8 0, .int .u8 0, .int .u8 0, .int .u8 0] 129)) := by repeat' (first | (with_reducible exact Below.refl _ _) | (with_reducible assumption) | (with_reducible refine Below.setCell ?_ ?_ _) | (with_reducible refine Below.alloc ?_ ?_ _) | (with_reducible refine Below.drew ?_) | (with_reducible refine Below.drawsN ?_ _) | go_size)
  go_enter Try.func62, Try.ntmps62
  go_upto_region 2 with fail
  obtain ⟨w1, hw1⟩ : ∃ w1, w1 = w.alloc (.cells #[.int .u8 2, .int .u8 0, .int .u8 0, .int .u8 0, .int .u8 0, .int .u8 0] 129) := ⟨_, rfl⟩
  obtain ⟨g0, hg0⟩ : ∃ g, g = w.heap.size := ⟨_, rfl⟩
  have hgb : w.heap.size ≤ g0 := by omega
  rw [← hw1] at h0 hb0 ⊢
  rw [← hg0] at h0 ⊢
  have H0 := Lib.hid h0
  have HB := Lib.hid hb0
  have l0 := box_lt h0
  clear hw1 hg0 hb0
  obtain ⟨I, W, hne, hWI, hIW⟩ := Go.Mix.family (fun v => Below w1.heap.size w1 v) (Below.refl _ _)
  have HJ := Lib.hid hIW
  have HW := Lib.hid hWI
  clear hWI hIW
  refine Go.Flo3.wp_region (fun w' => ∃ i, w' = W i) 8 [Go.Flo.Spec.is (.agg #[.int .u16 cxDef.f, .int .u16 cxDef.i, .int .u8 cxDef.r0, .int .u8 cxDef.r1, .int .u8 cxDef.r2, .int .u8 cxDef.r3, .int .u8 cxDef.r4, .int .u8 cxDef.r5, .int .i8 cxDef.c0, .int .i8 cxDef.c1, .int .i8 cxDef.c2, .int .i8 cxDef.c3, .int .i8 cxDef.c4, .int .i8 cxDef.c5, .int .u8 cxDef.m, .int .u16 cxDef.n, .bool cxDef.x, .int .u8 cxDef.h]), Go.Flo.Spec.row w1.heap.size 1 #[.int .i64 0] 3, Go.Flo.Spec.is (.tuple #[.agg #[.int .u16 cxA.f, .int .u16 cxA.i, .int .u8 cxA.r0, .int .u8 cxA.r1, .int .u8 cxA.r2, .int .u8 cxA.r3, .int .u8 cxA.r4, .int .u8 cxA.r5, .int .i8 cxA.c0, .int .i8 cxA.c1, .int .i8 cxA.c2, .int .i8 cxA.c3, .int .i8 cxA.c4, .int .i8 cxA.c5, .int .u8 cxA.m, .int .u16 cxA.n, .bool cxA.x, .int .u8 cxA.h], .bool true]), Go.Flo.Spec.ptr w1.heap.size #[.int .u16 cxZero.f, .int .u16 cxZero.i, .int .u8 cxZero.r0, .int .u8 cxZero.r1, .int .u8 cxZero.r2, .int .u8 cxZero.r3, .int .u8 cxZero.r4, .int .u8 cxZero.r5, .int .i8 cxZero.c0, .int .i8 cxZero.c1, .int .i8 cxZero.c2, .int .i8 cxZero.c3, .int .i8 cxZero.c4, .int .i8 cxZero.c5, .int .u8 cxZero.m, .int .u16 cxZero.n, .bool cxZero.x, .int .u8 cxZero.h] 131] (by kernel_rfl) (by kernel_rfl) (by decide) (by rintro _ w' ⟨i, rfl⟩ hb; exact HJ.out _ ((HW.out i).trans (hb.mono (HW.out i).size))) (HJ.out _ (Below.refl _ _).drew) ?_
  simp only [Go.Flo.pair, Go.Mix.calm, List.take, List.drop, if_true, Bool.false_eq_true, if_false, Nat.reduceAdd, Nat.reduceSub]
  (refine Go.Flo.fw_calm rfl ?_ (fun K hK => ?_); (first | exact Go.Mix.wanted_none rfl | exact Go.Mix.wanted_tt rfl rfl rfl | exact Go.Mix.wanted_ff rfl rfl rfl); refine Go.Flo.quiet_load_row 129 _ rfl g0 rfl _ #[.int .u8 2, .int .u8 0, .int .u8 0, .int .u8 0, .int .u8 0, .int .u8 0] _ (by rintro _ ⟨i, rfl⟩; exact ((HW.out i).block g0 l0).trans h0) Try.underlying129 rfl size_lm ?_; go_simp; refine hK _ ?_; clear hK K)
  refine Go.Flo.fw_loud rfl ?_ rfl (by simp) (fun wv hwv hav K hK => ?_) (fun v hv K hK => ?_)
  · (first | exact Go.Mix.wanted_none rfl | exact Go.Mix.wanted_tt rfl rfl rfl | exact Go.Mix.wanted_ff rfl rfl rfl)
  · obtain ⟨iv, rfl⟩ := hwv
    have hbv := HW.out iv
    (first | go_big_op | go_simp)
    go_at_call 66
    refine (Default_any _).mono ?_
    rintro e w' ⟨rfl, hb⟩
    exact hK _ _ (Go.Flo.owes_is _ rfl hb)
  obtain rfl := hv.is
  go_simp
  refine hK _ ?_
  clear hK K hv
  (repeat (first | (refine Go.Flo.fw_calm rfl ?_ (fun K hK => ?_); (first | exact Go.Mix.wanted_none rfl | exact Go.Mix.wanted_tt rfl rfl rfl | exact Go.Mix.wanted_ff rfl rfl rfl); go_big_quiet_op; refine hK _ ?_; clear hK K) | (refine Go.Flo.fw_skip ?_ (fun K hK => ?_); (first | exact Go.Mix.wanted_tf rfl rfl rfl | exact Go.Mix.wanted_ft rfl rfl rfl); go_simp; refine hK _ ?_; clear hK K) | (refine Go.Flo.fw_any rfl ?_ (fun K hK => ?_); (first | exact Go.Mix.wanted_none rfl | exact Go.Mix.wanted_tt rfl rfl rfl | exact Go.Mix.wanted_ff rfl rfl rfl); go_simp; (try (go_ints; try go_simp)); refine hK _ ?_; clear hK K)))
  refine Go.Flo.fw_loud rfl ?_ rfl (by simp) (fun wv hwv hav K hK => ?_) (fun v hv K hK => ?_)
  · (first | exact Go.Mix.wanted_none rfl | exact Go.Mix.wanted_tt rfl rfl rfl | exact Go.Mix.wanted_ff rfl rfl rfl)
  · obtain ⟨iv, rfl⟩ := hwv
    have hbv := HW.out iv
    (first | go_big_op | go_simp)
    exact hK _ _ (Go.Flo.owes_row hbv.size)
  obtain ⟨gr, hgr, rfl⟩ := hv.row
  go_simp
  refine hK _ ?_
  clear hK K hv
  refine Go.Flo.fw_loud rfl ?_ rfl (by simp) (fun wv hwv hav K hK => ?_) (fun v hv K hK => ?_)
  · (first | exact Go.Mix.wanted_none rfl | exact Go.Mix.wanted_tt rfl rfl rfl | exact Go.Mix.wanted_ff rfl rfl rfl)
  · obtain ⟨iv, rfl⟩ := hwv
    have hbv := HW.out iv
    (first | go_big_op | go_simp)
    have s1 := Go.Flo.says_row ((hav 11 (by decide +kernel)).2 rfl).1
    go_at_call 64
    refine (Spend_one (m := lm2) (c := cxDef) (d := cxA) (b := true) _ lm2_ok def_ok s1 sp1).mono ?_
    rintro e w' ⟨rfl, hb⟩
    exact hK _ _ (Go.Flo.owes_is _ rfl hb)
  obtain rfl := hv.is
  go_simp
  refine hK _ ?_
  clear hK K hv
  (repeat (first | (refine Go.Flo.fw_calm rfl ?_ (fun K hK => ?_); (first | exact Go.Mix.wanted_none rfl | exact Go.Mix.wanted_tt rfl rfl rfl | exact Go.Mix.wanted_ff rfl rfl rfl); go_big_quiet_op; refine hK _ ?_; clear hK K) | (refine Go.Flo.fw_skip ?_ (fun K hK => ?_); (first | exact Go.Mix.wanted_tf rfl rfl rfl | exact Go.Mix.wanted_ft rfl rfl rfl); go_simp; refine hK _ ?_; clear hK K) | (refine Go.Flo.fw_any rfl ?_ (fun K hK => ?_); (first | exact Go.Mix.wanted_none rfl | exact Go.Mix.wanted_tt rfl rfl rfl | exact Go.Mix.wanted_ff rfl rfl rfl); go_simp; (try (go_ints; try go_simp)); refine hK _ ?_; clear hK K)))
  refine Go.Flo.fw_loud rfl ?_ rfl (by simp) (fun wv hwv hav K hK => ?_) (fun v hv K hK => ?_)
  · (first | exact Go.Mix.wanted_none rfl | exact Go.Mix.wanted_tt rfl rfl rfl | exact Go.Mix.wanted_ff rfl rfl rfl)
  · obtain ⟨iv, rfl⟩ := hwv
    (first | go_big_op | go_simp)
    refine hK _ _ (Go.Flo.owes_ptr (HW.out iv).size)
  obtain ⟨x1, hx1, rfl, hnx1⟩ := hv.ptr rfl
  go_simp
  refine hK _ ?_
  clear hK K hv
  refine Go.Flo.fw_nil ?_
  intro w2 hww2 hfw2 huw2
  obtain ⟨iend, hiend⟩ := hww2
  have hbw2 := HW.out iend
  rw [← hiend] at hbw2
  clear hiend iend huw2
  have hC2 := Go.Flo.says_ptr ((hfw2 (some 2)).2 rfl).1
  have hS : AwSt w w2 g0 x1 lm2 cxZero := ⟨HB.out.trans (hbw2.mono HB.out.size), by have := HB.out.size; omega, by omega, box_below H0.out hbw2 l0, hC2⟩
  have HA := Lib.hid (hS.put cxA)
  clear hfw2 HJ HW hne hS h0 l0 hbw2 H0 HB
  clear W I
  refine ⟨fun _ => True, trivial, ?_⟩

  (refine Go.Mix.walk_loud rfl ?_ (fun K hK => ?_); (first | exact Go.Mix.wanted_none rfl | exact Go.Mix.wanted_tt rfl rfl rfl | exact Go.Mix.wanted_ff rfl rfl rfl); refine wp_store_row 131 _ _ rfl _ #[.int .u16 cxA.f, .int .u16 cxA.i, .int .u8 cxA.r0, .int .u8 cxA.r1, .int .u8 cxA.r2, .int .u8 cxA.r3, .int .u8 cxA.r4, .int .u8 cxA.r5, .int .i8 cxA.c0, .int .i8 cxA.c1, .int .i8 cxA.c2, .int .i8 cxA.c3, .int .i8 cxA.c4, .int .i8 cxA.c5, .int .u8 cxA.m, .int .u16 cxA.n, .bool cxA.x, .int .u8 cxA.h] rfl rfl 131 _ hC2 size_cx rfl (by simp [Value.oneCell']) (hK _ _ trivial ?_); clear hK K)
  (repeat (first | (refine Go.Mix.walk_calm rfl ?_ (fun K hK => ?_); (first | exact Go.Mix.wanted_none rfl | exact Go.Mix.wanted_tt rfl rfl rfl | exact Go.Mix.wanted_ff rfl rfl rfl); go_big_quiet_op; refine hK _ ?_; clear hK K) | (refine Go.Mix.walk_skip ?_ (fun K hK => ?_); (first | exact Go.Mix.wanted_tf rfl rfl rfl | exact Go.Mix.wanted_ft rfl rfl rfl); go_simp; refine hK _ ?_; clear hK K) | (refine Go.Mix.walk_loud rfl ?_ (fun K hK => ?_); (first | exact Go.Mix.wanted_none rfl | exact Go.Mix.wanted_tt rfl rfl rfl | exact Go.Mix.wanted_ff rfl rfl rfl); (first | go_big_op | go_simp); (first | (refine hK _ _ trivial ?_; clear hK K) | (fail; (try dsimp only); refine hK _ _ trivial ?_; clear hK K))) | (refine Go.Mix.walk_step (fun K hK => ?_); go_simp; (try (go_ints; try go_simp)); refine hK _ _ ?_; clear hK K)))
  refine Go.Mix.walk_nil ?_
  obtain ⟨w3, hw3⟩ : ∃ w3, w3 = w2.setRow x1 #[.int .u16 cxA.f, .int .u16 cxA.i, .int .u8 cxA.r0, .int .u8 cxA.r1, .int .u8 cxA.r2, .int .u8 cxA.r3, .int .u8 cxA.r4, .int .u8 cxA.r5, .int .i8 cxA.c0, .int .i8 cxA.c1, .int .i8 cxA.c2, .int .i8 cxA.c3, .int .i8 cxA.c4, .int .i8 cxA.c5, .int .u8 cxA.m, .int .u16 cxA.n, .bool cxA.x, .int .u8 cxA.h] := ⟨_, rfl⟩
  rw [← hw3] at HA ⊢
  clear hC2 hw3
  have b0 := HA.out.bm
  have b1 := HA.out.bc
  have hal : Below w3.heap.size w3 (w3.alloc (.cells #[.int .i64 0] 3)) := (Below.refl _ _).alloc (Nat.le_refl _) _
  have HST := Lib.hid (fun (w' : World) (hb : Below (w3.alloc (.cells #[.int .i64 0] 3)).heap.size (w3.alloc (.cells #[.int .i64 0] 3)) w') => HA.out.step (hal.trans (hb.mono hal.size)))
  clear hal HA
  go_wp2_with (first | ((with_reducible show wpList _ _ _ (_ :: _) _ _); refine wpList_load_row rfl 129 _ rfl _ rfl _ _ _ _ b0 Try.underlying129 rfl (by exact size_lm) ?_; (try go_simp)) | ((with_reducible show wpList _ _ _ (_ :: _) _ _); refine wpList_load_row rfl 131 _ rfl _ rfl _ _ _ _ b1 Try.underlying131 rfl (by exact size_cx) ?_; (try go_simp)))
  go_at_call 64
  refine (Spend_one (m := lm2) (c := cxA) (d := cxB2) (b := true) _ lm2_ok cxA_ok (heap_alloc_new _ _) sp2).mono ?_
  rintro e w4 ⟨rfl, hb⟩
  have HA := Lib.hid (HST.out _ hb)
  clear hb HST b0 b1
  have b1 := HA.out.bc
  have HA2 := Lib.hid (HA.out.put cxB2)
  go_upto_region 4 with (((with_reducible show wpList _ _ _ (_ :: _) _ _); refine wpList_store_row rfl 131 _ _ rfl _ _ rfl rfl _ _ b1 (by exact size_cx) (by rfl) (by simp [Value.oneCell']) ?_))
  obtain ⟨w5, hw5⟩ : ∃ w5, w5 = w4.setRow x1 #[.int .u16 cxB2.f, .int .u16 cxB2.i, .int .u8 cxB2.r0, .int .u8 cxB2.r1, .int .u8 cxB2.r2, .int .u8 cxB2.r3, .int .u8 cxB2.r4, .int .u8 cxB2.r5, .int .i8 cxB2.c0, .int .i8 cxB2.c1, .int .i8 cxB2.c2, .int .i8 cxB2.c3, .int .i8 cxB2.c4, .int .i8 cxB2.c5, .int .u8 cxB2.m, .int .u16 cxB2.n, .bool cxB2.x, .int .u8 cxB2.h] := ⟨_, rfl⟩
  rw [← hw5] at HA2 ⊢
  clear hw5 b1 HA
  have b0 := HA2.out.bm
  have b1 := HA2.out.bc
  have hal : Below w5.heap.size w5 (w5.alloc (.cells #[.int .i64 0] 3)) := (Below.refl _ _).alloc (Nat.le_refl _) _
  have HST := Lib.hid (fun (w' : World) (hb : Below (w5.alloc (.cells #[.int .i64 0] 3)).heap.size (w5.alloc (.cells #[.int .i64 0] 3)) w') => HA2.out.step (hal.trans (hb.mono hal.size)))
  clear hal HA2
  go_wp2_with (first | ((with_reducible show wpList _ _ _ (_ :: _) _ _); refine wpList_load_row rfl 129 _ rfl _ rfl _ _ _ _ b0 Try.underlying129 rfl (by exact size_lm) ?_; (try go_simp)) | ((with_reducible show wpList _ _ _ (_ :: _) _ _); refine wpList_load_row rfl 131 _ rfl _ rfl _ _ _ _ b1 Try.underlying131 rfl (by exact size_cx) ?_; (try go_simp)))
  go_at_call 64
  refine (Spend_one (m := lm2) (c := cxB2) (d := cxB2) (b := false) _ lm2_ok cxB_ok (heap_alloc_new _ _) sp3).mono ?_
  rintro e w6 ⟨rfl, hb⟩
  have HA := Lib.hid (HST.out _ hb)
  clear hb HST b0 b1
  have h7 := HA.out.step ((Below.refl w6.heap.size w6).alloc (Nat.le_refl _) (.cells #[.int .u16 cxB2.f, .int .u16 cxB2.i, .int .u8 cxB2.r0, .int .u8 cxB2.r1, .int .u8 cxB2.r2, .int .u8 cxB2.r3, .int .u8 cxB2.r4, .int .u8 cxB2.r5, .int .i8 cxB2.c0, .int .i8 cxB2.c1, .int .i8 cxB2.c2, .int .i8 cxB2.c3, .int .i8 cxB2.c4, .int .i8 cxB2.c5, .int .u8 cxB2.m, .int .u16 cxB2.n, .bool cxB2.x, .int .u8 cxB2.h] 131))
  have HA3 := Lib.hid h7
  clear h7 HA
  go_upto_region 5 with ((with_reducible show wpList _ _ _ (_ :: _) _ _); refine wpList_store_row rfl 131 _ _ rfl _ _ rfl rfl _ _ (heap_alloc_new _ _) (by exact size_cx) (by rfl) (by simp [Value.oneCell']) ?_; rw [World.setRow_alloc_new])
  obtain ⟨w7, hw7⟩ : ∃ w7, w7 = w6.alloc (.cells #[.int .u16 cxB2.f, .int .u16 cxB2.i, .int .u8 cxB2.r0, .int .u8 cxB2.r1, .int .u8 cxB2.r2, .int .u8 cxB2.r3, .int .u8 cxB2.r4, .int .u8 cxB2.r5, .int .i8 cxB2.c0, .int .i8 cxB2.c1, .int .i8 cxB2.c2, .int .i8 cxB2.c3, .int .i8 cxB2.c4, .int .i8 cxB2.c5, .int .u8 cxB2.m, .int .u16 cxB2.n, .bool cxB2.x, .int .u8 cxB2.h] 131) := ⟨_, rfl⟩
  rw [← hw7] at HA3 ⊢
  clear hw7
  have b1 := HA3.out.bc
  go_wp2_with ((refine wpLoadG (by (first | exact Go.Mix.wanted_none rfl | exact Go.Mix.wanted_tt rfl rfl rfl | exact Go.Mix.wanted_ff rfl rfl rfl)) 131 _ rfl _ rfl _ _ _ _ b1 Try.underlying131 rfl (by exact size_cx) ?_; (try go_simp)))
  go_at_call 69
  refine (Total_any cxB_ok _).mono ?_
  rintro e w8 ⟨rfl, hb⟩
  have HB := Lib.hid (HA3.out.step hb).be
  rw [totB]
  clear hb b1 HA3
  go_wp2_with fail
  go_ret
  exact ⟨rfl, HB.out⟩
end Go.Proofs.Ytiaaafjpnijphaa
