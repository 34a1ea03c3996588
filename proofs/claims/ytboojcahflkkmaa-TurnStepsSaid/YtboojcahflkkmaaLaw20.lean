/- Layer 20: the document's example. -/
import Derived.Test.YtboojcahflkkmaaTn9
import Derived.Lib.Strings
namespace Go.Proofs.Ytboojcahflkkmaa
open Go.RowKit Go.Own Bs
set_option linter.unusedVariables false
set_option linter.unusedSimpArgs false
/-- The example's chain. -/
def c3 : Nat → Int := fun k => if k = 0 then 3 else -1
theorem c3_ok : ChOk c3 := fun k _ => by unfold c3; split <;> decide
theorem noneC_ok : ChOk noneC := fun k _ => by unfold noneC; decide
theorem c3_units : unitsS c3 6 = 8 := by decide
theorem none_units : unitsS noneC 6 = 0 := by decide
theorem up8 : upTo 8 16 = [3] := by decide
/-- A cycle's result, as a spec. -/
def SpNx (n0 : Nat) (x : Nx) : Go.Flo.Spec :=
  ⟨fun v w => ∃ u, v = .tuple #[.agg #[.int .u8 x.p, .int .i8 (x.f 0), .int .i8 (x.f 1), .int .i8 (x.f 2), .int .i8 (x.f 3), .int .i8 (x.f 4), .int .i8 (x.f 5), .int .i8 (x.t 0), .int .i8 (x.t 1), .int .i8 (x.t 2), .int .i8 (x.t 3), .int .i8 (x.t 4), .int .i8 (x.t 5)], .agg #[.slice none 0 0, u, .bool x.d, .int .u16 ((x.q : Nat) : Int)]] ∧ w.ownsRow n0 3 1 u (upTo x.o 16).length (zl (upTo x.o 16)), fun v w w' hb ⟨u, h, ho⟩ => ⟨u, h, own_keepZ ho hb⟩⟩
theorem owes_Nx {o : Oper} {n0 : Nat} {x : Nx} {w w' : World} {u : Value} {base : Nat} (hm : Go.Flo.makes o = false) (hb : Below w.heap.size w w') (h : w'.ownsRow base 3 1 u (upTo x.o 16).length (zl (upTo x.o 16))) (h0 : n0 ≤ base) : Go.Flo.owes o (SpNx n0 x) w (.tuple #[.agg #[.int .u8 x.p, .int .i8 (x.f 0), .int .i8 (x.f 1), .int .i8 (x.f 2), .int .i8 (x.f 3), .int .i8 (x.f 4), .int .i8 (x.f 5), .int .i8 (x.t 0), .int .i8 (x.t 1), .int .i8 (x.t 2), .int .i8 (x.t 3), .int .i8 (x.t 4), .int .i8 (x.t 5)], .agg #[.slice none 0 0, u, .bool x.d, .int .u16 ((x.q : Nat) : Int)]]) w' :=
  ⟨⟨u, rfl, own_baseZ h h0⟩, hb, fun g hg => by simp [Go.Flo.ownOf, hm] at hg⟩
theorem ex_Nx {C : World → Prop} {o : Oper} {n0 : Nat} {x : Nx} {v : Value} {F : Go.Flo.Facts} {G : Go.Flo.Used} (h : Go.Flo.Ex C o (SpNx n0 x) F G v) : ∃ a c, v = .tuple #[.agg #[.int .u8 x.p, .int .i8 (x.f 0), .int .i8 (x.f 1), .int .i8 (x.f 2), .int .i8 (x.f 3), .int .i8 (x.f 4), .int .i8 (x.f 5), .int .i8 (x.t 0), .int .i8 (x.t 1), .int .i8 (x.t 2), .int .i8 (x.t 3), .int .i8 (x.t 4), .int .i8 (x.t 5)], .agg #[.slice none 0 0, .slice a (upTo x.o 16).length c, .bool x.d, .int .u16 ((x.q : Nat) : Int)]] := by
  obtain ⟨w, _, _, ⟨u, h1, h2⟩, _⟩ := h
  obtain ⟨a, c, rfl⟩ := own_formZ h2
  exact ⟨a, c, h1⟩
/-- Where the example stands. -/
structure A20 (w wr : World) (g1 g2 g3 g4 rb ro vc : Nat) (p : Int) (f t : Nat → Int) : Prop where
  be : Below w.heap.size w wr
  b1 : wr.heap[g1]? = some (.cells #[.int .i8 (noneC 0), .int .i8 (noneC 1), .int .i8 (noneC 2), .int .i8 (noneC 3), .int .i8 (noneC 4), .int .i8 (noneC 5)] 67 (0, 0))
  b2 : wr.heap[g2]? = some (.cells #[.int .i8 (c3 0), .int .i8 (c3 1), .int .i8 (c3 2), .int .i8 (c3 3), .int .i8 (c3 4), .int .i8 (c3 5)] 67 (0, 0))
  b3 : wr.heap[g3]? = some (.cells #[.int .u8 p, .int .i8 (f 0), .int .i8 (f 1), .int .i8 (f 2), .int .i8 (f 3), .int .i8 (f 4), .int .i8 (f 5), .int .i8 (t 0), .int .i8 (t 1), .int .i8 (t 2), .int .i8 (t 3), .int .i8 (t 4), .int .i8 (t 5)] 96 (0, 0))
  b4 : wr.heap[g4]? = some (.cells #[.slice (some ⟨rb, ro, none⟩) 1 vc, .slice none 0 0, .bool false, .int .u16 0] 98 (0, 0))
  h3 : w.heap.size ≤ g3
  n1 : g1 ≠ g3
  n2 : g2 ≠ g3
  n4 : g4 ≠ g3
  nr : rb < g3
  rc : wr.cell? ⟨rb, ro, none⟩ = some (.int .i64 3)
theorem A20.step {w wr w' : World} {g1 g2 g3 g4 rb ro vc : Nat} {p : Int} {f t : Nat → Int} (h : A20 w wr g1 g2 g3 g4 rb ro vc p f t) (hb : Below wr.heap.size wr w') : A20 w w' g1 g2 g3 g4 rb ro vc p f t :=
  ⟨h.be.trans (hb.mono h.be.size), box_below h.b1 hb (box_lt h.b1), box_below h.b2 hb (box_lt h.b2), box_below h.b3 hb (box_lt h.b3), box_below h.b4 hb (box_lt h.b4), h.h3, h.n1, h.n2, h.n4, h.nr, (hb.cell (p := ⟨rb, ro, none⟩) (Nat.lt_trans h.nr (box_lt h.b3))).trans h.rc⟩
theorem A20.put {w wr : World} {g1 g2 g3 g4 rb ro vc : Nat} {p : Int} {f t : Nat → Int} (h : A20 w wr g1 g2 g3 g4 rb ro vc p f t) (p' : Int) (f' t' : Nat → Int) : A20 w (wr.setRow g3 #[.int .u8 p', .int .i8 (f' 0), .int .i8 (f' 1), .int .i8 (f' 2), .int .i8 (f' 3), .int .i8 (f' 4), .int .i8 (f' 5), .int .i8 (t' 0), .int .i8 (t' 1), .int .i8 (t' 2), .int .i8 (t' 3), .int .i8 (t' 4), .int .i8 (t' 5)]) g1 g2 g3 g4 rb ro vc p' f' t' :=
  ⟨bel_rowS h.be h.h3 _, (setRow_other _ _ _ _ h.n1).trans h.b1, (setRow_other _ _ _ _ h.n2).trans h.b2, setRow_heap _ _ _ _ _ _ h.b3, (setRow_other _ _ _ _ h.n4).trans h.b4, h.h3, h.n1, h.n2, h.n4, h.nr, (World.cell?_of_block (a := ⟨rb, ro, none⟩) (setRow_other _ _ _ _ (Nat.ne_of_lt h.nr))).trans h.rc⟩
set_option maxRecDepth 100000 in
set_option maxHeartbeats 8000000 in
theorem nx1 : nxtR 1 noneC c3 0 0 = ⟨1, noneC, c3, 0, false, 0⟩ := by
  show (if (1 : Int) = 1 then powR _ _ _ _ else _) = _
  rw [if_pos rfl]
  unfold powR
  rw [c3_units, if_pos (by decide), if_neg (by decide)]
theorem nx2 : nxtR 1 noneC c3 8 0 = ⟨2, noneC, c3, 0, false, 0⟩ := by
  show (if (1 : Int) = 1 then powR _ _ _ _ else _) = _
  rw [if_pos rfl]
  unfold powR
  rw [c3_units, if_pos (by decide), if_pos (by decide)]
theorem nx3 : nxtR 2 noneC c3 8 0 = ⟨3, noneC, c3, 0, false, 0⟩ := rfl
theorem nx4 : nxtR 3 noneC c3 8 0 = ⟨0, c3, c3, onlyS noneC c3, true, 0⟩ := rfl
set_option maxRecDepth 100000 in
set_option maxHeartbeats 8000000 in
theorem awake20 (w : World) : Calls Try.prog 46 #[] w fun e w' => e = .returned (.bool true) ∧ Below w.heap.size w w' := by
  have hzc := zero_ch
  have hzt := zero_tn
  have hzs := zero_st
  go_enter Try.func46, Try.ntmps46
  go_upto_region 2 with (((with_reducible show wpList _ _ _ (_ :: _) _ _); refine wpList_store_row rfl 67 _ _ rfl _ _ rfl rfl _ _ (heap_alloc_new _ _) (by exact size_ch) (by rfl) (by simp [Value.oneCell']) ?_; rw [World.setRow_alloc_new]))
  have d1 := heap_alloc_new w (.cells #[.int .i8 (noneC 0), .int .i8 (noneC 1), .int .i8 (noneC 2), .int .i8 (noneC 3), .int .i8 (noneC 4), .int .i8 (noneC 5)] 67)
  have hb1 : Below w.heap.size w (w.alloc (.cells #[.int .i8 (noneC 0), .int .i8 (noneC 1), .int .i8 (noneC 2), .int .i8 (noneC 3), .int .i8 (noneC 4), .int .i8 (noneC 5)] 67)) := by repeat' (first | (with_reducible exact Below.refl _ _) | (with_reducible assumption) | (with_reducible refine Below.setCell ?_ ?_ _) | (with_reducible refine Below.alloc ?_ ?_ _) | (with_reducible refine Below.drew ?_) | (with_reducible refine Below.drawsN ?_ _) | go_size)
  obtain ⟨w1, hw1⟩ : ∃ w1, w1 = w.alloc (.cells #[.int .i8 (noneC 0), .int .i8 (noneC 1), .int .i8 (noneC 2), .int .i8 (noneC 3), .int .i8 (noneC 4), .int .i8 (noneC 5)] 67) := ⟨_, rfl⟩
  rw [← hw1] at d1 hb1
  rw [show w.alloc (.cells #[.int .i8 (-1), .int .i8 (-1), .int .i8 (-1), .int .i8 (-1), .int .i8 (-1), .int .i8 (-1)] 67) = w1 from hw1.symm]
  have hg1 : w.heap.size ≤ w.heap.size := Nat.le_refl _
  obtain ⟨g1, e1⟩ : ∃ g, g = w.heap.size := ⟨_, rfl⟩
  rw [show (Value.pointer (some ⟨w.heap.size, 0, none⟩)) = .pointer (some ⟨g1, 0, none⟩) by rw [e1]]
  rw [← e1] at d1
  clear hw1 e1 hg1
  go_upto_region 3 with (first | ((with_reducible show wpList _ _ _ (_ :: _) _ _); refine wpList_load_row rfl 67 _ rfl _ rfl _ _ _ _ d1 Try.underlying67 rfl (by exact size_ch) ?_; (try go_simp)) | ((with_reducible show wpList _ _ _ (_ :: _) _ _); refine wpList_store_row rfl 67 _ _ rfl _ _ rfl rfl _ _ (heap_alloc_new _ _) (by exact size_ch) (by rfl) (by simp [Value.oneCell']) ?_; rw [World.setRow_alloc_new]))
  have d2 := heap_alloc_new w1 (.cells #[.int .i8 (noneC 0), .int .i8 (noneC 1), .int .i8 (noneC 2), .int .i8 (noneC 3), .int .i8 (noneC 4), .int .i8 (noneC 5)] 67)
  have hb2 : Below w1.heap.size w1 (w1.alloc (.cells #[.int .i8 (noneC 0), .int .i8 (noneC 1), .int .i8 (noneC 2), .int .i8 (noneC 3), .int .i8 (noneC 4), .int .i8 (noneC 5)] 67)) := by repeat' (first | (with_reducible exact Below.refl _ _) | (with_reducible assumption) | (with_reducible refine Below.setCell ?_ ?_ _) | (with_reducible refine Below.alloc ?_ ?_ _) | (with_reducible refine Below.drew ?_) | (with_reducible refine Below.drawsN ?_ _) | go_size)
  have k1 := box_below d1 hb2 (box_lt d1)
  obtain ⟨w2, hw2⟩ : ∃ w2, w2 = w1.alloc (.cells #[.int .i8 (noneC 0), .int .i8 (noneC 1), .int .i8 (noneC 2), .int .i8 (noneC 3), .int .i8 (noneC 4), .int .i8 (noneC 5)] 67) := ⟨_, rfl⟩
  have hn12 : g1 ≠ w1.heap.size := Nat.ne_of_lt (box_lt d1)
  have hwg : w.heap.size ≤ w1.heap.size := hb1.size
  rw [← hw2] at d2 hb2 k1 ⊢
  obtain ⟨g2, e2⟩ : ∃ g, g = w1.heap.size := ⟨_, rfl⟩
  rw [← e2] at d2 hn12 hwg ⊢
  have c0 := cell_of_row _ g2 0 _ _ _ d2
  have fz := frozen_of_row _ g2 0 _ _ d2
  have d3 : (w2.setCell ⟨g2, 0, none⟩ (.int .i8 3)).heap[g2]? = some (.cells #[.int .i8 (c3 0), .int .i8 (c3 1), .int .i8 (c3 2), .int .i8 (c3 3), .int .i8 (c3 4), .int .i8 (c3 5)] 67 (0, 0)) := heap_setCell_same w2 g2 0 _ _ _ d2
  have k3 := (heap_setCell_other w2 ⟨g2, 0, none⟩ g1 (.int .i8 3) hn12).trans k1
  have HB3 := Lib.hid ((hb1.trans (hb2.mono hb1.size)).setCell (p := ⟨g2, 0, none⟩) hwg (.int .i8 3))
  clear hw2 e2 d1 hb1 hb2 k1 hn12 hwg
  go_upto_region 4 with fail
  obtain ⟨w3, hw3⟩ : ∃ w3, w3 = w2.setCell ⟨g2, 0, none⟩ (.int .i8 3) := ⟨_, rfl⟩
  rw [← hw3] at d3 k3 HB3 ⊢
  clear hw3 c0 fz d2
  have hst := Start_idle noneC noneC c3 0 w3 c3_ok (by decide)
  rw [c3_units, show lessS 8 0 = 8 by decide, up8] at hst
  have HST := Lib.hid hst
  clear hst
  go_wp2_with (first | ((with_reducible show wpList _ _ _ (_ :: _) _ _); refine wpList_load_row rfl 67 _ rfl _ rfl _ _ _ _ k3 Try.underlying67 rfl (by exact size_ch) ?_; (try go_simp)) | ((with_reducible show wpList _ _ _ (_ :: _) _ _); refine wpList_load_row rfl 67 _ rfl _ rfl _ _ _ _ d3 Try.underlying67 rfl (by exact size_ch) ?_; (try go_simp)))
  go_at_call 54
  refine HST.out.mono ?_
  rintro e w4 ⟨v, rfl, hown, hb4⟩
  obtain ⟨va, vc, rfl⟩ := own_formZ hown
  obtain ⟨p1, p2, p3, p4, p5⟩ := pairBox w4 #[.int .u8 1, .int .i8 (noneC 0), .int .i8 (noneC 1), .int .i8 (noneC 2), .int .i8 (noneC 3), .int .i8 (noneC 4), .int .i8 (noneC 5), .int .i8 (c3 0), .int .i8 (c3 1), .int .i8 (c3 2), .int .i8 (c3 3), .int .i8 (c3 4), .int .i8 (c3 5)] #[.slice va 1 vc, .slice none 0 0, .bool false, .int .u16 0]
  have hr := rd_of_own (f := zv [3]) hown (fun i hi => zl_zv _ i hi)
  obtain ⟨rb, ro, rfl, hrb, hrc⟩ := hr.at (k := 0) (by decide)
  have hbb := HB3.out.trans (hb4.mono HB3.out.size)
  have k4 := box_below k3 hb4 (box_lt k3)
  have d4 := box_below d3 hb4 (box_lt d3)
  have HA := Lib.hid (show A20 w _ g1 g2 w4.heap.size (w4.heap.size + 1) rb ro vc 1 noneC c3 from ⟨hbb.trans (p5.mono hbb.size), box_below k4 p5 (box_lt k4), box_below d4 p5 (box_lt d4), p3, p4, hbb.size, Nat.ne_of_lt (box_lt k4), Nat.ne_of_lt (box_lt d4), by omega, hrb, (p5.cell (p := ⟨rb, ro, none⟩) hrb).trans hrc⟩)
  clear HST hr hown hb4 hbb hrb hrc k3 d3 k4 d4 p3 p4 p5 HB3
  go_upto_region 5 with (first | ((with_reducible show wpList _ _ _ (_ :: _) _ _); refine wpList_store_row rfl 96 _ _ rfl _ _ rfl rfl _ _ p1 (by exact size_tn) (by rfl) (by simp [Value.oneCell']) ?_) | ((with_reducible show wpList _ _ _ (_ :: _) _ _); refine wpList_store_row rfl 98 _ _ rfl _ _ rfl rfl _ _ p2 (by exact size_st) (by rfl) (by simp [Value.oneCell']) ?_))
  clear p1 p2
  obtain ⟨w5, hw5⟩ : ∃ w5, w5 = (((w4.alloc (.cells #[.int .u8 0, .int .i8 0, .int .i8 0, .int .i8 0, .int .i8 0, .int .i8 0, .int .i8 0, .int .i8 0, .int .i8 0, .int .i8 0, .int .i8 0, .int .i8 0, .int .i8 0] 96)).alloc (.cells #[.slice none 0 0, .slice none 0 0, .bool false, .int .u16 0] 98)).setRow w4.heap.size #[.int .u8 1, .int .i8 (noneC 0), .int .i8 (noneC 1), .int .i8 (noneC 2), .int .i8 (noneC 3), .int .i8 (noneC 4), .int .i8 (noneC 5), .int .i8 (c3 0), .int .i8 (c3 1), .int .i8 (c3 2), .int .i8 (c3 3), .int .i8 (c3 4), .int .i8 (c3 5)]).setRow (w4.heap.size + 1) #[.slice (some ⟨rb, ro, none⟩) 1 vc, .slice none 0 0, .bool false, .int .u16 0] := ⟨_, rfl⟩
  rw [← hw5] at HA ⊢
  obtain ⟨g4, e4⟩ : ∃ g, g = w4.heap.size + 1 := ⟨_, rfl⟩
  rw [← e4] at HA ⊢
  obtain ⟨g3, e3⟩ : ∃ g, g = w4.heap.size := ⟨_, rfl⟩
  rw [← e3] at HA ⊢
  clear hw5 e4 e3
  have b3 := HA.out.b3
  go_wp2_with (((with_reducible show wpList _ _ _ (_ :: _) _ _); refine wpList_load_row rfl 96 _ rfl _ rfl _ _ _ _ b3 Try.underlying96 rfl (by exact size_tn) ?_; (try go_simp)))
  go_at_call 47
  refine (Next_det _ noneC_ok c3_ok (by decide) (by decide) nx1).mono ?_
  rintro e w6 ⟨u, rfl, ho, hb⟩
  obtain ⟨ua, uc, rfl⟩ := own_formZ ho
  have HA6 := Lib.hid (HA.out.step hb)
  clear ho hb HA b3
  have b3 := HA6.out.b3
  go_upto_region 6 with (((with_reducible show wpList _ _ _ (_ :: _) _ _); refine wpList_store_row rfl 96 _ _ rfl _ _ rfl rfl _ _ b3 (by exact size_tn) (by rfl) (by simp [Value.oneCell']) ?_))
  have HA7 := Lib.hid (HA6.out.put 1 noneC c3)
  clear b3 HA6
  obtain ⟨w7, hw7⟩ : ∃ w7, w7 = w6.setRow g3 #[.int .u8 1, .int .i8 (noneC 0), .int .i8 (noneC 1), .int .i8 (noneC 2), .int .i8 (noneC 3), .int .i8 (noneC 4), .int .i8 (noneC 5), .int .i8 (c3 0), .int .i8 (c3 1), .int .i8 (c3 2), .int .i8 (c3 3), .int .i8 (c3 4), .int .i8 (c3 5)] := ⟨_, rfl⟩
  rw [← hw7] at HA7 ⊢
  clear hw7
  have b3 := HA7.out.b3
  have l3 := box_lt b3
  skip
  obtain ⟨I, W, hne, hWI, hIW⟩ := Go.Mix.family (fun v => Below w7.heap.size w7 v) (Below.refl _ _)
  have HJ := Lib.hid hIW
  have HW := Lib.hid hWI
  clear hWI hIW
  refine Go.Flo3.wp_region (fun w' => ∃ i, w' = W i) 7 [Go.Flo.Spec.row w7.heap.size 1 #[.int .i64 3] 3, Go.Flo.Spec.is (.int .u16 (8 : Nat)), SpNx w7.heap.size (Nx.mk 2 noneC c3 0 false 0)] (by kernel_rfl) (by kernel_rfl) (by decide) (by rintro _ w' ⟨i, rfl⟩ hb; exact HJ.out _ ((HW.out i).trans (hb.mono (HW.out i).size))) (HJ.out _ (Below.refl _ _).drew) ?_
  simp only [Go.Flo.pair, Go.Mix.calm, List.take, List.drop, if_true, Bool.false_eq_true, if_false, Nat.reduceAdd, Nat.reduceSub]
  (refine Go.Flo.fw_calm rfl ?_ (fun K hK => ?_); (first | exact Go.Mix.wanted_none rfl | exact Go.Mix.wanted_tt rfl rfl rfl | exact Go.Mix.wanted_ff rfl rfl rfl); refine Go.Flo.quiet_load_row 96 _ rfl _ rfl _ #[.int .u8 1, .int .i8 (noneC 0), .int .i8 (noneC 1), .int .i8 (noneC 2), .int .i8 (noneC 3), .int .i8 (noneC 4), .int .i8 (noneC 5), .int .i8 (c3 0), .int .i8 (c3 1), .int .i8 (c3 2), .int .i8 (c3 3), .int .i8 (c3 4), .int .i8 (c3 5)] _ (by rintro _ ⟨i, rfl⟩; exact ((HW.out i).block _ l3).trans b3) Try.underlying96 rfl size_tn ?_; go_simp; refine hK _ ?_; clear hK K)
  refine Go.Flo.fw_loud rfl ?_ rfl (by simp) (fun wv hwv hav K hK => ?_) (fun v hv K hK => ?_)
  · (first | exact Go.Mix.wanted_none rfl | exact Go.Mix.wanted_tt rfl rfl rfl | exact Go.Mix.wanted_ff rfl rfl rfl)
  · obtain ⟨iv, rfl⟩ := hwv
    have hbv := HW.out iv
    (first | go_big_op | go_simp)
    exact hK _ _ (Go.Flo.owes_row hbv.size)
  obtain ⟨gr, hgr, rfl⟩ := hv.row
  go_simp
  refine hK _ ?_
  clear hK K hv
  refine Go.Flo.fw_loud rfl ?_ rfl (by simp) (fun wv hwv hav K hK => ?_) (fun v hv K hK => ?_)
  · (first | exact Go.Mix.wanted_none rfl | exact Go.Mix.wanted_tt rfl rfl rfl | exact Go.Mix.wanted_ff rfl rfl rfl)
  · obtain ⟨iv, rfl⟩ := hwv
    have hbv := HW.out iv
    (first | go_big_op | go_simp)
    have s1 := Go.Flo.says_row ((hav 27 (by decide +kernel)).2 rfl).1
    go_at_call 43
    refine (Of_any _ 1 1 _ [3] _ rfl (Nat.le_refl _) (rd_oneS s1)).mono ?_
    rintro e w' ⟨rfl, hb⟩
    exact hK _ _ (Go.Flo.owes_is _ rfl hb)
  obtain rfl := hv.is
  go_simp
  refine hK _ ?_
  clear hK K hv
  refine Go.Flo.fw_loud rfl ?_ rfl (by simp) (fun wv hwv hav K hK => ?_) (fun v hv K hK => ?_)
  · (first | exact Go.Mix.wanted_none rfl | exact Go.Mix.wanted_tt rfl rfl rfl | exact Go.Mix.wanted_ff rfl rfl rfl)
  · obtain ⟨iv, rfl⟩ := hwv
    have hbv := HW.out iv
    (first | go_big_op | go_simp)
    go_at_call 47
    refine (Next_det _ noneC_ok c3_ok (by decide) (by decide) nx2).mono ?_
    rintro e w' ⟨u, rfl, ho, hb⟩
    exact hK _ _ (owes_Nx rfl hb ho hbv.size)
  obtain ⟨xa, xc, rfl⟩ := ex_Nx hv
  go_simp
  refine hK _ ?_
  clear hK K hv
  (repeat (first | (refine Go.Flo.fw_calm rfl ?_ (fun K hK => ?_); (first | exact Go.Mix.wanted_none rfl | exact Go.Mix.wanted_tt rfl rfl rfl | exact Go.Mix.wanted_ff rfl rfl rfl); go_big_quiet_op; refine hK _ ?_; clear hK K) | (refine Go.Flo.fw_skip ?_ (fun K hK => ?_); (first | exact Go.Mix.wanted_tf rfl rfl rfl | exact Go.Mix.wanted_ft rfl rfl rfl); go_simp; refine hK _ ?_; clear hK K) | (refine Go.Flo.fw_any rfl ?_ (fun K hK => ?_); (first | exact Go.Mix.wanted_none rfl | exact Go.Mix.wanted_tt rfl rfl rfl | exact Go.Mix.wanted_ff rfl rfl rfl); go_simp; (try (go_ints; try go_simp)); refine hK _ ?_; clear hK K)))
  refine Go.Flo.fw_nil ?_
  intro w8 hww8 hfw8 huw8
  obtain ⟨iend, hiend⟩ := hww8
  have hbw8 := HW.out iend
  rw [← hiend] at hbw8
  clear hiend iend huw8
  have HA8 := Lib.hid (HA7.out.step hbw8)
  clear hfw8 HJ HW hne hbw8 b3 l3 HA7
  clear W I
  have b3 := HA8.out.b3
  refine ⟨fun _ => True, trivial, ?_⟩

  (repeat (first | (refine Go.Mix.walk_calm rfl ?_ (fun K hK => ?_); (first | exact Go.Mix.wanted_none rfl | exact Go.Mix.wanted_tt rfl rfl rfl | exact Go.Mix.wanted_ff rfl rfl rfl); go_big_quiet_op; refine hK _ ?_; clear hK K) | (refine Go.Mix.walk_skip ?_ (fun K hK => ?_); (first | exact Go.Mix.wanted_tf rfl rfl rfl | exact Go.Mix.wanted_ft rfl rfl rfl); go_simp; refine hK _ ?_; clear hK K) | (refine Go.Mix.walk_loud rfl ?_ (fun K hK => ?_); (first | exact Go.Mix.wanted_none rfl | exact Go.Mix.wanted_tt rfl rfl rfl | exact Go.Mix.wanted_ff rfl rfl rfl); (first | go_big_op | go_simp); (first | (refine hK _ _ trivial ?_; clear hK K) | (fail; (try dsimp only); refine hK _ _ trivial ?_; clear hK K))) | (refine Go.Mix.walk_step (fun K hK => ?_); go_simp; (try (go_ints; try go_simp)); refine hK _ _ ?_; clear hK K)))
  (refine Go.Mix.walk_loud rfl ?_ (fun K hK => ?_); (first | exact Go.Mix.wanted_none rfl | exact Go.Mix.wanted_tt rfl rfl rfl | exact Go.Mix.wanted_ff rfl rfl rfl); refine wp_store_row 96 _ _ rfl _ #[.int .u8 2, .int .i8 (noneC 0), .int .i8 (noneC 1), .int .i8 (noneC 2), .int .i8 (noneC 3), .int .i8 (noneC 4), .int .i8 (noneC 5), .int .i8 (c3 0), .int .i8 (c3 1), .int .i8 (c3 2), .int .i8 (c3 3), .int .i8 (c3 4), .int .i8 (c3 5)] rfl rfl 96 _ b3 size_tn rfl (by simp [Value.oneCell']) (hK _ _ trivial ?_); clear hK K)
  (repeat (first | (refine Go.Mix.walk_calm rfl ?_ (fun K hK => ?_); (first | exact Go.Mix.wanted_none rfl | exact Go.Mix.wanted_tt rfl rfl rfl | exact Go.Mix.wanted_ff rfl rfl rfl); go_big_quiet_op; refine hK _ ?_; clear hK K) | (refine Go.Mix.walk_skip ?_ (fun K hK => ?_); (first | exact Go.Mix.wanted_tf rfl rfl rfl | exact Go.Mix.wanted_ft rfl rfl rfl); go_simp; refine hK _ ?_; clear hK K) | (refine Go.Mix.walk_loud rfl ?_ (fun K hK => ?_); (first | exact Go.Mix.wanted_none rfl | exact Go.Mix.wanted_tt rfl rfl rfl | exact Go.Mix.wanted_ff rfl rfl rfl); (first | go_big_op | go_simp); (first | (refine hK _ _ trivial ?_; clear hK K) | (fail; (try dsimp only); refine hK _ _ trivial ?_; clear hK K))) | (refine Go.Mix.walk_step (fun K hK => ?_); go_simp; (try (go_ints; try go_simp)); refine hK _ _ ?_; clear hK K)))
  refine Go.Mix.walk_nil ?_
  have HA9 := Lib.hid (HA8.out.put 2 noneC c3)
  clear b3 HA8
  obtain ⟨w9, hw9⟩ : ∃ w9, w9 = w8.setRow g3 #[.int .u8 2, .int .i8 (noneC 0), .int .i8 (noneC 1), .int .i8 (noneC 2), .int .i8 (noneC 3), .int .i8 (noneC 4), .int .i8 (noneC 5), .int .i8 (c3 0), .int .i8 (c3 1), .int .i8 (c3 2), .int .i8 (c3 3), .int .i8 (c3 4), .int .i8 (c3 5)] := ⟨_, rfl⟩
  rw [← hw9] at HA9 ⊢
  clear hw9
  go_upto_region 7 with fail
  have b3 := HA9.out.b3
  have l3 := box_lt b3
  skip
  obtain ⟨I, W, hne, hWI, hIW⟩ := Go.Mix.family (fun v => Below w9.heap.size w9 v) (Below.refl _ _)
  have HJ := Lib.hid hIW
  have HW := Lib.hid hWI
  clear hWI hIW
  refine Go.Flo3.wp_region (fun w' => ∃ i, w' = W i) 7 [Go.Flo.Spec.row w9.heap.size 1 #[.int .i64 3] 3, Go.Flo.Spec.is (.int .u16 (8 : Nat)), SpNx w9.heap.size (Nx.mk 3 noneC c3 0 false 0)] (by kernel_rfl) (by kernel_rfl) (by decide) (by rintro _ w' ⟨i, rfl⟩ hb; exact HJ.out _ ((HW.out i).trans (hb.mono (HW.out i).size))) (HJ.out _ (Below.refl _ _).drew) ?_
  simp only [Go.Flo.pair, Go.Mix.calm, List.take, List.drop, if_true, Bool.false_eq_true, if_false, Nat.reduceAdd, Nat.reduceSub]
  (refine Go.Flo.fw_calm rfl ?_ (fun K hK => ?_); (first | exact Go.Mix.wanted_none rfl | exact Go.Mix.wanted_tt rfl rfl rfl | exact Go.Mix.wanted_ff rfl rfl rfl); refine Go.Flo.quiet_load_row 96 _ rfl _ rfl _ #[.int .u8 2, .int .i8 (noneC 0), .int .i8 (noneC 1), .int .i8 (noneC 2), .int .i8 (noneC 3), .int .i8 (noneC 4), .int .i8 (noneC 5), .int .i8 (c3 0), .int .i8 (c3 1), .int .i8 (c3 2), .int .i8 (c3 3), .int .i8 (c3 4), .int .i8 (c3 5)] _ (by rintro _ ⟨i, rfl⟩; exact ((HW.out i).block _ l3).trans b3) Try.underlying96 rfl size_tn ?_; go_simp; refine hK _ ?_; clear hK K)
  refine Go.Flo.fw_loud rfl ?_ rfl (by simp) (fun wv hwv hav K hK => ?_) (fun v hv K hK => ?_)
  · (first | exact Go.Mix.wanted_none rfl | exact Go.Mix.wanted_tt rfl rfl rfl | exact Go.Mix.wanted_ff rfl rfl rfl)
  · obtain ⟨iv, rfl⟩ := hwv
    have hbv := HW.out iv
    (first | go_big_op | go_simp)
    exact hK _ _ (Go.Flo.owes_row hbv.size)
  obtain ⟨gr, hgr, rfl⟩ := hv.row
  go_simp
  refine hK _ ?_
  clear hK K hv
  refine Go.Flo.fw_loud rfl ?_ rfl (by simp) (fun wv hwv hav K hK => ?_) (fun v hv K hK => ?_)
  · (first | exact Go.Mix.wanted_none rfl | exact Go.Mix.wanted_tt rfl rfl rfl | exact Go.Mix.wanted_ff rfl rfl rfl)
  · obtain ⟨iv, rfl⟩ := hwv
    have hbv := HW.out iv
    (first | go_big_op | go_simp)
    have s1 := Go.Flo.says_row ((hav 34 (by decide +kernel)).2 rfl).1
    go_at_call 43
    refine (Of_any _ 1 1 _ [3] _ rfl (Nat.le_refl _) (rd_oneS s1)).mono ?_
    rintro e w' ⟨rfl, hb⟩
    exact hK _ _ (Go.Flo.owes_is _ rfl hb)
  obtain rfl := hv.is
  go_simp
  refine hK _ ?_
  clear hK K hv
  refine Go.Flo.fw_loud rfl ?_ rfl (by simp) (fun wv hwv hav K hK => ?_) (fun v hv K hK => ?_)
  · (first | exact Go.Mix.wanted_none rfl | exact Go.Mix.wanted_tt rfl rfl rfl | exact Go.Mix.wanted_ff rfl rfl rfl)
  · obtain ⟨iv, rfl⟩ := hwv
    have hbv := HW.out iv
    (first | go_big_op | go_simp)
    go_at_call 47
    refine (Next_det _ noneC_ok c3_ok (by decide) (by decide) nx3).mono ?_
    rintro e w' ⟨u, rfl, ho, hb⟩
    exact hK _ _ (owes_Nx rfl hb ho hbv.size)
  obtain ⟨xa, xc, rfl⟩ := ex_Nx hv
  go_simp
  refine hK _ ?_
  clear hK K hv
  (repeat (first | (refine Go.Flo.fw_calm rfl ?_ (fun K hK => ?_); (first | exact Go.Mix.wanted_none rfl | exact Go.Mix.wanted_tt rfl rfl rfl | exact Go.Mix.wanted_ff rfl rfl rfl); go_big_quiet_op; refine hK _ ?_; clear hK K) | (refine Go.Flo.fw_skip ?_ (fun K hK => ?_); (first | exact Go.Mix.wanted_tf rfl rfl rfl | exact Go.Mix.wanted_ft rfl rfl rfl); go_simp; refine hK _ ?_; clear hK K) | (refine Go.Flo.fw_any rfl ?_ (fun K hK => ?_); (first | exact Go.Mix.wanted_none rfl | exact Go.Mix.wanted_tt rfl rfl rfl | exact Go.Mix.wanted_ff rfl rfl rfl); go_simp; (try (go_ints; try go_simp)); refine hK _ ?_; clear hK K)))
  refine Go.Flo.fw_nil ?_
  intro wa hwwa hfwa huwa
  obtain ⟨iend, hiend⟩ := hwwa
  have hbwa := HW.out iend
  rw [← hiend] at hbwa
  clear hiend iend huwa
  have HA8 := Lib.hid (HA9.out.step hbwa)
  clear hfwa HJ HW hne hbwa b3 l3 HA9
  clear W I
  have b3 := HA8.out.b3
  refine ⟨fun _ => True, trivial, ?_⟩

  (repeat (first | (refine Go.Mix.walk_calm rfl ?_ (fun K hK => ?_); (first | exact Go.Mix.wanted_none rfl | exact Go.Mix.wanted_tt rfl rfl rfl | exact Go.Mix.wanted_ff rfl rfl rfl); go_big_quiet_op; refine hK _ ?_; clear hK K) | (refine Go.Mix.walk_skip ?_ (fun K hK => ?_); (first | exact Go.Mix.wanted_tf rfl rfl rfl | exact Go.Mix.wanted_ft rfl rfl rfl); go_simp; refine hK _ ?_; clear hK K) | (refine Go.Mix.walk_loud rfl ?_ (fun K hK => ?_); (first | exact Go.Mix.wanted_none rfl | exact Go.Mix.wanted_tt rfl rfl rfl | exact Go.Mix.wanted_ff rfl rfl rfl); (first | go_big_op | go_simp); (first | (refine hK _ _ trivial ?_; clear hK K) | (fail; (try dsimp only); refine hK _ _ trivial ?_; clear hK K))) | (refine Go.Mix.walk_step (fun K hK => ?_); go_simp; (try (go_ints; try go_simp)); refine hK _ _ ?_; clear hK K)))
  (refine Go.Mix.walk_loud rfl ?_ (fun K hK => ?_); (first | exact Go.Mix.wanted_none rfl | exact Go.Mix.wanted_tt rfl rfl rfl | exact Go.Mix.wanted_ff rfl rfl rfl); refine wp_store_row 96 _ _ rfl _ #[.int .u8 3, .int .i8 (noneC 0), .int .i8 (noneC 1), .int .i8 (noneC 2), .int .i8 (noneC 3), .int .i8 (noneC 4), .int .i8 (noneC 5), .int .i8 (c3 0), .int .i8 (c3 1), .int .i8 (c3 2), .int .i8 (c3 3), .int .i8 (c3 4), .int .i8 (c3 5)] rfl rfl 96 _ b3 size_tn rfl (by simp [Value.oneCell']) (hK _ _ trivial ?_); clear hK K)
  (repeat (first | (refine Go.Mix.walk_calm rfl ?_ (fun K hK => ?_); (first | exact Go.Mix.wanted_none rfl | exact Go.Mix.wanted_tt rfl rfl rfl | exact Go.Mix.wanted_ff rfl rfl rfl); go_big_quiet_op; refine hK _ ?_; clear hK K) | (refine Go.Mix.walk_skip ?_ (fun K hK => ?_); (first | exact Go.Mix.wanted_tf rfl rfl rfl | exact Go.Mix.wanted_ft rfl rfl rfl); go_simp; refine hK _ ?_; clear hK K) | (refine Go.Mix.walk_loud rfl ?_ (fun K hK => ?_); (first | exact Go.Mix.wanted_none rfl | exact Go.Mix.wanted_tt rfl rfl rfl | exact Go.Mix.wanted_ff rfl rfl rfl); (first | go_big_op | go_simp); (first | (refine hK _ _ trivial ?_; clear hK K) | (fail; (try dsimp only); refine hK _ _ trivial ?_; clear hK K))) | (refine Go.Mix.walk_step (fun K hK => ?_); go_simp; (try (go_ints; try go_simp)); refine hK _ _ ?_; clear hK K)))
  refine Go.Mix.walk_nil ?_
  have HA9 := Lib.hid (HA8.out.put 3 noneC c3)
  clear b3 HA8
  obtain ⟨wb, hwb⟩ : ∃ w9, w9 = wa.setRow g3 #[.int .u8 3, .int .i8 (noneC 0), .int .i8 (noneC 1), .int .i8 (noneC 2), .int .i8 (noneC 3), .int .i8 (noneC 4), .int .i8 (noneC 5), .int .i8 (c3 0), .int .i8 (c3 1), .int .i8 (c3 2), .int .i8 (c3 3), .int .i8 (c3 4), .int .i8 (c3 5)] := ⟨_, rfl⟩
  rw [← hwb] at HA9 ⊢
  clear hwb
  go_upto_region 8 with fail
  have b3 := HA9.out.b3
  have l3 := box_lt b3
  obtain ⟨I, W, hne, hWI, hIW⟩ := Go.Mix.family (fun v => Below wb.heap.size wb v) (Below.refl _ _)
  have HJ := Lib.hid hIW
  have HW := Lib.hid hWI
  clear hWI hIW
  refine Go.Flo3.wp_region (fun w' => ∃ i, w' = W i) 9 [Go.Flo.Spec.row wb.heap.size 1 #[.int .i64 3] 3, Go.Flo.Spec.is (.int .u16 (8 : Nat)), SpNx wb.heap.size (Nx.mk 0 c3 c3 (onlyS noneC c3) true 0), Go.Flo.Spec.ptr wb.heap.size #[.int .u8 0, .int .i8 0, .int .i8 0, .int .i8 0, .int .i8 0, .int .i8 0, .int .i8 0, .int .i8 0, .int .i8 0, .int .i8 0, .int .i8 0, .int .i8 0, .int .i8 0] 96, Go.Flo.Spec.ptr wb.heap.size #[.slice none 0 0, .slice none 0 0, .bool false, .int .u16 0] 98] (by kernel_rfl) (by kernel_rfl) (by decide) (by rintro _ w' ⟨i, rfl⟩ hb; exact HJ.out _ ((HW.out i).trans (hb.mono (HW.out i).size))) (HJ.out _ (Below.refl _ _).drew) ?_
  simp only [Go.Flo.pair, Go.Mix.calm, List.take, List.drop, if_true, Bool.false_eq_true, if_false, Nat.reduceAdd, Nat.reduceSub]
  (refine Go.Flo.fw_calm rfl ?_ (fun K hK => ?_); (first | exact Go.Mix.wanted_none rfl | exact Go.Mix.wanted_tt rfl rfl rfl | exact Go.Mix.wanted_ff rfl rfl rfl); refine Go.Flo.quiet_load_row 96 _ rfl _ rfl _ #[.int .u8 3, .int .i8 (noneC 0), .int .i8 (noneC 1), .int .i8 (noneC 2), .int .i8 (noneC 3), .int .i8 (noneC 4), .int .i8 (noneC 5), .int .i8 (c3 0), .int .i8 (c3 1), .int .i8 (c3 2), .int .i8 (c3 3), .int .i8 (c3 4), .int .i8 (c3 5)] _ (by rintro _ ⟨i, rfl⟩; exact ((HW.out i).block _ l3).trans b3) Try.underlying96 rfl size_tn ?_; go_simp; refine hK _ ?_; clear hK K)
  refine Go.Flo.fw_loud rfl ?_ rfl (by simp) (fun wv hwv hav K hK => ?_) (fun v hv K hK => ?_)
  · (first | exact Go.Mix.wanted_none rfl | exact Go.Mix.wanted_tt rfl rfl rfl | exact Go.Mix.wanted_ff rfl rfl rfl)
  · obtain ⟨iv, rfl⟩ := hwv
    have hbv := HW.out iv
    (first | go_big_op | go_simp)
    exact hK _ _ (Go.Flo.owes_row hbv.size)
  obtain ⟨gr, hgr, rfl⟩ := hv.row
  go_simp
  refine hK _ ?_
  clear hK K hv
  refine Go.Flo.fw_loud rfl ?_ rfl (by simp) (fun wv hwv hav K hK => ?_) (fun v hv K hK => ?_)
  · (first | exact Go.Mix.wanted_none rfl | exact Go.Mix.wanted_tt rfl rfl rfl | exact Go.Mix.wanted_ff rfl rfl rfl)
  · obtain ⟨iv, rfl⟩ := hwv
    have hbv := HW.out iv
    (first | go_big_op | go_simp)
    have s1 := Go.Flo.says_row ((hav 41 (by decide +kernel)).2 rfl).1
    go_at_call 43
    refine (Of_any _ 1 1 _ [3] _ rfl (Nat.le_refl _) (rd_oneS s1)).mono ?_
    rintro e w' ⟨rfl, hb⟩
    exact hK _ _ (Go.Flo.owes_is _ rfl hb)
  obtain rfl := hv.is
  go_simp
  refine hK _ ?_
  clear hK K hv
  refine Go.Flo.fw_loud rfl ?_ rfl (by simp) (fun wv hwv hav K hK => ?_) (fun v hv K hK => ?_)
  · (first | exact Go.Mix.wanted_none rfl | exact Go.Mix.wanted_tt rfl rfl rfl | exact Go.Mix.wanted_ff rfl rfl rfl)
  · obtain ⟨iv, rfl⟩ := hwv
    have hbv := HW.out iv
    (first | go_big_op | go_simp)
    go_at_call 47
    refine (Next_det _ noneC_ok c3_ok (by decide) (by decide) nx4).mono ?_
    rintro e w' ⟨u, rfl, ho, hb⟩
    exact hK _ _ (owes_Nx rfl hb ho hbv.size)
  obtain ⟨xa, xc, rfl⟩ := ex_Nx hv
  go_simp
  refine hK _ ?_
  clear hK K hv
  (repeat (first | (refine Go.Flo.fw_calm rfl ?_ (fun K hK => ?_); (first | exact Go.Mix.wanted_none rfl | exact Go.Mix.wanted_tt rfl rfl rfl | exact Go.Mix.wanted_ff rfl rfl rfl); go_big_quiet_op; refine hK _ ?_; clear hK K) | (refine Go.Flo.fw_skip ?_ (fun K hK => ?_); (first | exact Go.Mix.wanted_tf rfl rfl rfl | exact Go.Mix.wanted_ft rfl rfl rfl); go_simp; refine hK _ ?_; clear hK K) | (refine Go.Flo.fw_any rfl ?_ (fun K hK => ?_); (first | exact Go.Mix.wanted_none rfl | exact Go.Mix.wanted_tt rfl rfl rfl | exact Go.Mix.wanted_ff rfl rfl rfl); go_simp; (try (go_ints; try go_simp)); refine hK _ ?_; clear hK K)))
  refine Go.Flo.fw_loud rfl ?_ rfl (by simp) (fun wv hwv hav K hK => ?_) (fun v hv K hK => ?_)
  · (first | exact Go.Mix.wanted_none rfl | exact Go.Mix.wanted_tt rfl rfl rfl | exact Go.Mix.wanted_ff rfl rfl rfl)
  · obtain ⟨iv, rfl⟩ := hwv
    (first | go_big_op | go_simp)
    refine hK _ _ (Go.Flo.owes_ptr (HW.out iv).size)
  obtain ⟨g6, hg6, rfl, hng6⟩ := hv.ptr rfl
  go_simp
  refine hK _ ?_
  clear hK K hv
  refine Go.Flo.fw_loud rfl ?_ rfl (by simp) (fun wv hwv hav K hK => ?_) (fun v hv K hK => ?_)
  · (first | exact Go.Mix.wanted_none rfl | exact Go.Mix.wanted_tt rfl rfl rfl | exact Go.Mix.wanted_ff rfl rfl rfl)
  · obtain ⟨iv, rfl⟩ := hwv
    (first | go_big_op | go_simp)
    refine hK _ _ (Go.Flo.owes_ptr (HW.out iv).size)
  obtain ⟨g7, hg7, rfl, hng7⟩ := hv.ptr rfl
  go_simp
  refine hK _ ?_
  clear hK K hv
  have hng : g7 ≠ g6 := fun e => hng7 (e ▸ .inl rfl)
  refine Go.Flo.fw_nil ?_
  intro wc hwwc hfwc huwc
  obtain ⟨iend, hiend⟩ := hwwc
  have hbwc := HW.out iend
  rw [← hiend] at hbwc
  clear hiend iend huwc
  have h7 := Go.Flo.says_ptr ((hfwc (some 7)).2 rfl).1
  have h6 := Go.Flo.says_ptr ((hfwc (some 6)).1.2 rfl).1
  obtain ⟨vl, hvo⟩ : ∃ vl, vl = (upTo (onlyS noneC c3) 16).length := ⟨_, rfl⟩
  have h7' := (setRow_other wc g6 g7 #[.int .u8 0, .int .i8 (c3 0), .int .i8 (c3 1), .int .i8 (c3 2), .int .i8 (c3 3), .int .i8 (c3 4), .int .i8 (c3 5), .int .i8 (c3 0), .int .i8 (c3 1), .int .i8 (c3 2), .int .i8 (c3 3), .int .i8 (c3 4), .int .i8 (c3 5)] hng).trans h7
  have e6 := (setRow_other _ g7 g6 #[.slice none 0 0, .slice xa vl xc, .bool true, .int .u16 0] (Ne.symm hng)).trans (setRow_heap wc g6 _ #[.int .u8 0, .int .i8 (c3 0), .int .i8 (c3 1), .int .i8 (c3 2), .int .i8 (c3 3), .int .i8 (c3 4), .int .i8 (c3 5), .int .i8 (c3 0), .int .i8 (c3 1), .int .i8 (c3 2), .int .i8 (c3 3), .int .i8 (c3 4), .int .i8 (c3 5)] _ _ h6)
  have e7 := setRow_heap _ g7 _ #[.slice none 0 0, .slice xa vl xc, .bool true, .int .u16 0] _ _ h7'
  have hb9 : Below wb.heap.size wc ((wc.setRow g6 #[.int .u8 0, .int .i8 (c3 0), .int .i8 (c3 1), .int .i8 (c3 2), .int .i8 (c3 3), .int .i8 (c3 4), .int .i8 (c3 5), .int .i8 (c3 0), .int .i8 (c3 1), .int .i8 (c3 2), .int .i8 (c3 3), .int .i8 (c3 4), .int .i8 (c3 5)]).setRow g7 #[.slice none 0 0, .slice xa vl xc, .bool true, .int .u16 0]) := bel_rowS (bel_rowS (Below.refl _ _) hg6 _) hg7 _
  have HAd := Lib.hid (HA9.out.step (hbwc.trans hb9))
  rw [← hvo]
  clear hfwc HJ HW hne hbwc b3 l3 HA9 hng6 hng7 hb9 hvo
  clear W I
  refine ⟨fun _ => True, trivial, ?_⟩

  (repeat (first | (refine Go.Mix.walk_calm rfl ?_ (fun K hK => ?_); (first | exact Go.Mix.wanted_none rfl | exact Go.Mix.wanted_tt rfl rfl rfl | exact Go.Mix.wanted_ff rfl rfl rfl); go_big_quiet_op; refine hK _ ?_; clear hK K) | (refine Go.Mix.walk_skip ?_ (fun K hK => ?_); (first | exact Go.Mix.wanted_tf rfl rfl rfl | exact Go.Mix.wanted_ft rfl rfl rfl); go_simp; refine hK _ ?_; clear hK K) | (refine Go.Mix.walk_loud rfl ?_ (fun K hK => ?_); (first | exact Go.Mix.wanted_none rfl | exact Go.Mix.wanted_tt rfl rfl rfl | exact Go.Mix.wanted_ff rfl rfl rfl); (first | go_big_op | go_simp); (first | (refine hK _ _ trivial ?_; clear hK K) | (fail; (try dsimp only); refine hK _ _ trivial ?_; clear hK K))) | (refine Go.Mix.walk_step (fun K hK => ?_); go_simp; (try (go_ints; try go_simp)); refine hK _ _ ?_; clear hK K)))
  (refine Go.Mix.walk_loud rfl ?_ (fun K hK => ?_); (first | exact Go.Mix.wanted_none rfl | exact Go.Mix.wanted_tt rfl rfl rfl | exact Go.Mix.wanted_ff rfl rfl rfl); refine wp_store_row 96 _ _ rfl _ #[.int .u8 0, .int .i8 (c3 0), .int .i8 (c3 1), .int .i8 (c3 2), .int .i8 (c3 3), .int .i8 (c3 4), .int .i8 (c3 5), .int .i8 (c3 0), .int .i8 (c3 1), .int .i8 (c3 2), .int .i8 (c3 3), .int .i8 (c3 4), .int .i8 (c3 5)] rfl rfl 96 _ h6 size_tn rfl (by simp [Value.oneCell']) (hK _ _ trivial ?_); clear hK K)
  (repeat (first | (refine Go.Mix.walk_calm rfl ?_ (fun K hK => ?_); (first | exact Go.Mix.wanted_none rfl | exact Go.Mix.wanted_tt rfl rfl rfl | exact Go.Mix.wanted_ff rfl rfl rfl); go_big_quiet_op; refine hK _ ?_; clear hK K) | (refine Go.Mix.walk_skip ?_ (fun K hK => ?_); (first | exact Go.Mix.wanted_tf rfl rfl rfl | exact Go.Mix.wanted_ft rfl rfl rfl); go_simp; refine hK _ ?_; clear hK K) | (refine Go.Mix.walk_loud rfl ?_ (fun K hK => ?_); (first | exact Go.Mix.wanted_none rfl | exact Go.Mix.wanted_tt rfl rfl rfl | exact Go.Mix.wanted_ff rfl rfl rfl); (first | go_big_op | go_simp); (first | (refine hK _ _ trivial ?_; clear hK K) | (fail; (try dsimp only); refine hK _ _ trivial ?_; clear hK K))) | (refine Go.Mix.walk_step (fun K hK => ?_); go_simp; (try (go_ints; try go_simp)); refine hK _ _ ?_; clear hK K)))
  (refine Go.Mix.walk_loud rfl ?_ (fun K hK => ?_); (first | exact Go.Mix.wanted_none rfl | exact Go.Mix.wanted_tt rfl rfl rfl | exact Go.Mix.wanted_ff rfl rfl rfl); refine wp_store_row 98 _ _ rfl _ #[.slice none 0 0, .slice xa vl xc, .bool true, .int .u16 0] rfl rfl 98 _ h7' size_st rfl (by simp [Value.oneCell']) (hK _ _ trivial ?_); clear hK K)
  (repeat (first | (refine Go.Mix.walk_calm rfl ?_ (fun K hK => ?_); (first | exact Go.Mix.wanted_none rfl | exact Go.Mix.wanted_tt rfl rfl rfl | exact Go.Mix.wanted_ff rfl rfl rfl); go_big_quiet_op; refine hK _ ?_; clear hK K) | (refine Go.Mix.walk_skip ?_ (fun K hK => ?_); (first | exact Go.Mix.wanted_tf rfl rfl rfl | exact Go.Mix.wanted_ft rfl rfl rfl); go_simp; refine hK _ ?_; clear hK K) | (refine Go.Mix.walk_loud rfl ?_ (fun K hK => ?_); (first | exact Go.Mix.wanted_none rfl | exact Go.Mix.wanted_tt rfl rfl rfl | exact Go.Mix.wanted_ff rfl rfl rfl); (first | go_big_op | go_simp); (first | (refine hK _ _ trivial ?_; clear hK K) | (fail; (try dsimp only); refine hK _ _ trivial ?_; clear hK K))) | (refine Go.Mix.walk_step (fun K hK => ?_); go_simp; (try (go_ints; try go_simp)); refine hK _ _ ?_; clear hK K)))
  refine Go.Mix.walk_nil ?_
  obtain ⟨wd, hwd⟩ : ∃ wd, wd = (wc.setRow g6 #[.int .u8 0, .int .i8 (c3 0), .int .i8 (c3 1), .int .i8 (c3 2), .int .i8 (c3 3), .int .i8 (c3 4), .int .i8 (c3 5), .int .i8 (c3 0), .int .i8 (c3 1), .int .i8 (c3 2), .int .i8 (c3 3), .int .i8 (c3 4), .int .i8 (c3 5)]).setRow g7 #[.slice none 0 0, .slice xa vl xc, .bool true, .int .u16 0] := ⟨_, rfl⟩
  rw [← hwd] at e6 e7 HAd ⊢
  clear hwd h6 h7 h7'
  go_upto_region 9 with fail
  have l6 := box_lt e6
  have l7 := box_lt e7
  have b2 := HAd.out.b2
  have b3 := HAd.out.b3
  have b4 := HAd.out.b4
  have l2 := box_lt b2
  have l3 := box_lt b3
  have l4 := box_lt b4
  have hrl : rb < wd.heap.size := Nat.lt_trans HAd.out.nr l3
  have q0 := HAd.out.rc
  obtain ⟨I, W, hne, hWI, hIW⟩ := Go.Mix.family (fun v => Below wd.heap.size wd v) (Below.refl _ _)
  have HJ := Lib.hid hIW
  have HW := Lib.hid hWI
  clear hWI hIW
  refine Go.Flo.wp_region (fun w' => ∃ i, w' = W i) 32 [Go.Flo.Spec.is (.agg #[.int .i8 (c3 0), .int .i8 (c3 1), .int .i8 (c3 2), .int .i8 (c3 3), .int .i8 (c3 4), .int .i8 (c3 5)]), Go.Flo.Spec.is (.agg #[.int .i8 (c3 0), .int .i8 (c3 1), .int .i8 (c3 2), .int .i8 (c3 3), .int .i8 (c3 4), .int .i8 (c3 5)])] (by kernel_rfl) (by kernel_rfl) (by decide) (by rintro _ w' ⟨i, rfl⟩ hb; exact HJ.out _ ((HW.out i).trans (hb.mono (HW.out i).size))) (HJ.out _ (Below.refl _ _).drew) ?_
  simp only [Go.Flo.pair, Go.Mix.calm, List.take, List.drop, if_true, Bool.false_eq_true, if_false, Nat.reduceAdd, Nat.reduceSub]
  have y0 : ∀ i, (W i).cell? ⟨g4, 0, none⟩ = some (.slice (some ⟨rb, ro, none⟩) 1 vc) := fun i => ((HW.out i).cell (p := ⟨g4, 0, none⟩) l4).trans (cell_of_row _ _ 0 _ _ _ b4)
  have y1 : ∀ i, (W i).cell? ⟨rb, ro, none⟩ = some (.int .i64 3) := fun i => ((HW.out i).cell (p := ⟨rb, ro, none⟩) hrl).trans q0
  have y2 : ∀ i, (W i).cell? ⟨g7, 2, none⟩ = some (.bool true) := fun i => ((HW.out i).cell (p := ⟨g7, 2, none⟩) l7).trans (cell_of_row _ _ 2 _ _ _ e7)
  have he : ∀ w, (binOp .eql 67 (.agg #[.int .i8 (c3 0), .int .i8 (c3 1), .int .i8 (c3 2), .int .i8 (c3 3), .int .i8 (c3 4), .int .i8 (c3 5)]) (.agg #[.int .i8 (c3 0), .int .i8 (c3 1), .int .i8 (c3 2), .int .i8 (c3 3), .int .i8 (c3 4), .int .i8 (c3 5)])).run Try.prog w = .ok (.bool true) w := fun w => by rw [eqlCh c3_ok c3_ok, sameC_refl]
  have HE := Lib.hid he
  clear he
  (first | (refine Go.Flo.fw_calm rfl ?_ (fun K hK => ?_); (first | exact Go.Mix.wanted_none rfl | exact Go.Mix.wanted_tt rfl rfl rfl | exact Go.Mix.wanted_ff rfl rfl rfl); go_big_quiet_op; refine hK _ ?_; clear hK K) | (refine Go.Flo.fw_skip ?_ (fun K hK => ?_); (first | exact Go.Mix.wanted_tf rfl rfl rfl | exact Go.Mix.wanted_ft rfl rfl rfl); go_simp; refine hK _ ?_; clear hK K) | (refine Go.Flo.fw_any rfl ?_ (fun K hK => ?_); (first | exact Go.Mix.wanted_none rfl | exact Go.Mix.wanted_tt rfl rfl rfl | exact Go.Mix.wanted_ff rfl rfl rfl); go_simp; (try (go_ints; try go_simp)); refine hK _ ?_; clear hK K))
  (first | (refine Go.Flo.fw_calm rfl ?_ (fun K hK => ?_); (first | exact Go.Mix.wanted_none rfl | exact Go.Mix.wanted_tt rfl rfl rfl | exact Go.Mix.wanted_ff rfl rfl rfl); go_big_quiet_op; refine hK _ ?_; clear hK K) | (refine Go.Flo.fw_skip ?_ (fun K hK => ?_); (first | exact Go.Mix.wanted_tf rfl rfl rfl | exact Go.Mix.wanted_ft rfl rfl rfl); go_simp; refine hK _ ?_; clear hK K) | (refine Go.Flo.fw_any rfl ?_ (fun K hK => ?_); (first | exact Go.Mix.wanted_none rfl | exact Go.Mix.wanted_tt rfl rfl rfl | exact Go.Mix.wanted_ff rfl rfl rfl); go_simp; (try (go_ints; try go_simp)); refine hK _ ?_; clear hK K))
  (first | (refine Go.Flo.fw_calm rfl ?_ (fun K hK => ?_); (first | exact Go.Mix.wanted_none rfl | exact Go.Mix.wanted_tt rfl rfl rfl | exact Go.Mix.wanted_ff rfl rfl rfl); go_big_quiet_op; refine hK _ ?_; clear hK K) | (refine Go.Flo.fw_skip ?_ (fun K hK => ?_); (first | exact Go.Mix.wanted_tf rfl rfl rfl | exact Go.Mix.wanted_ft rfl rfl rfl); go_simp; refine hK _ ?_; clear hK K) | (refine Go.Flo.fw_any rfl ?_ (fun K hK => ?_); (first | exact Go.Mix.wanted_none rfl | exact Go.Mix.wanted_tt rfl rfl rfl | exact Go.Mix.wanted_ff rfl rfl rfl); go_simp; (try (go_ints; try go_simp)); refine hK _ ?_; clear hK K))
  (first | (refine Go.Flo.fw_calm rfl ?_ (fun K hK => ?_); (first | exact Go.Mix.wanted_none rfl | exact Go.Mix.wanted_tt rfl rfl rfl | exact Go.Mix.wanted_ff rfl rfl rfl); go_big_quiet_op; refine hK _ ?_; clear hK K) | (refine Go.Flo.fw_skip ?_ (fun K hK => ?_); (first | exact Go.Mix.wanted_tf rfl rfl rfl | exact Go.Mix.wanted_ft rfl rfl rfl); go_simp; refine hK _ ?_; clear hK K) | (refine Go.Flo.fw_any rfl ?_ (fun K hK => ?_); (first | exact Go.Mix.wanted_none rfl | exact Go.Mix.wanted_tt rfl rfl rfl | exact Go.Mix.wanted_ff rfl rfl rfl); go_simp; (try (go_ints; try go_simp)); refine hK _ ?_; clear hK K))
  (first | (refine Go.Flo.fw_calm rfl ?_ (fun K hK => ?_); (first | exact Go.Mix.wanted_none rfl | exact Go.Mix.wanted_tt rfl rfl rfl | exact Go.Mix.wanted_ff rfl rfl rfl); go_big_quiet_op; refine hK _ ?_; clear hK K) | (refine Go.Flo.fw_skip ?_ (fun K hK => ?_); (first | exact Go.Mix.wanted_tf rfl rfl rfl | exact Go.Mix.wanted_ft rfl rfl rfl); go_simp; refine hK _ ?_; clear hK K) | (refine Go.Flo.fw_any rfl ?_ (fun K hK => ?_); (first | exact Go.Mix.wanted_none rfl | exact Go.Mix.wanted_tt rfl rfl rfl | exact Go.Mix.wanted_ff rfl rfl rfl); go_simp; (try (go_ints; try go_simp)); refine hK _ ?_; clear hK K))
  (first | (refine Go.Flo.fw_calm rfl ?_ (fun K hK => ?_); (first | exact Go.Mix.wanted_none rfl | exact Go.Mix.wanted_tt rfl rfl rfl | exact Go.Mix.wanted_ff rfl rfl rfl); go_big_quiet_op; refine hK _ ?_; clear hK K) | (refine Go.Flo.fw_skip ?_ (fun K hK => ?_); (first | exact Go.Mix.wanted_tf rfl rfl rfl | exact Go.Mix.wanted_ft rfl rfl rfl); go_simp; refine hK _ ?_; clear hK K) | (refine Go.Flo.fw_any rfl ?_ (fun K hK => ?_); (first | exact Go.Mix.wanted_none rfl | exact Go.Mix.wanted_tt rfl rfl rfl | exact Go.Mix.wanted_ff rfl rfl rfl); go_simp; (try (go_ints; try go_simp)); refine hK _ ?_; clear hK K))
  (first | (refine Go.Flo.fw_calm rfl ?_ (fun K hK => ?_); (first | exact Go.Mix.wanted_none rfl | exact Go.Mix.wanted_tt rfl rfl rfl | exact Go.Mix.wanted_ff rfl rfl rfl); go_big_quiet_op; refine hK _ ?_; clear hK K) | (refine Go.Flo.fw_skip ?_ (fun K hK => ?_); (first | exact Go.Mix.wanted_tf rfl rfl rfl | exact Go.Mix.wanted_ft rfl rfl rfl); go_simp; refine hK _ ?_; clear hK K) | (refine Go.Flo.fw_any rfl ?_ (fun K hK => ?_); (first | exact Go.Mix.wanted_none rfl | exact Go.Mix.wanted_tt rfl rfl rfl | exact Go.Mix.wanted_ff rfl rfl rfl); go_simp; (try (go_ints; try go_simp)); refine hK _ ?_; clear hK K))
  (first | (refine Go.Flo.fw_calm rfl ?_ (fun K hK => ?_); (first | exact Go.Mix.wanted_none rfl | exact Go.Mix.wanted_tt rfl rfl rfl | exact Go.Mix.wanted_ff rfl rfl rfl); go_big_quiet_op; refine hK _ ?_; clear hK K) | (refine Go.Flo.fw_skip ?_ (fun K hK => ?_); (first | exact Go.Mix.wanted_tf rfl rfl rfl | exact Go.Mix.wanted_ft rfl rfl rfl); go_simp; refine hK _ ?_; clear hK K) | (refine Go.Flo.fw_any rfl ?_ (fun K hK => ?_); (first | exact Go.Mix.wanted_none rfl | exact Go.Mix.wanted_tt rfl rfl rfl | exact Go.Mix.wanted_ff rfl rfl rfl); go_simp; (try (go_ints; try go_simp)); refine hK _ ?_; clear hK K))
  (first | (refine Go.Flo.fw_calm rfl ?_ (fun K hK => ?_); (first | exact Go.Mix.wanted_none rfl | exact Go.Mix.wanted_tt rfl rfl rfl | exact Go.Mix.wanted_ff rfl rfl rfl); go_big_quiet_op; refine hK _ ?_; clear hK K) | (refine Go.Flo.fw_skip ?_ (fun K hK => ?_); (first | exact Go.Mix.wanted_tf rfl rfl rfl | exact Go.Mix.wanted_ft rfl rfl rfl); go_simp; refine hK _ ?_; clear hK K) | (refine Go.Flo.fw_any rfl ?_ (fun K hK => ?_); (first | exact Go.Mix.wanted_none rfl | exact Go.Mix.wanted_tt rfl rfl rfl | exact Go.Mix.wanted_ff rfl rfl rfl); go_simp; (try (go_ints; try go_simp)); refine hK _ ?_; clear hK K))
  (first | (refine Go.Flo.fw_calm rfl ?_ (fun K hK => ?_); (first | exact Go.Mix.wanted_none rfl | exact Go.Mix.wanted_tt rfl rfl rfl | exact Go.Mix.wanted_ff rfl rfl rfl); go_big_quiet_op; refine hK _ ?_; clear hK K) | (refine Go.Flo.fw_skip ?_ (fun K hK => ?_); (first | exact Go.Mix.wanted_tf rfl rfl rfl | exact Go.Mix.wanted_ft rfl rfl rfl); go_simp; refine hK _ ?_; clear hK K) | (refine Go.Flo.fw_any rfl ?_ (fun K hK => ?_); (first | exact Go.Mix.wanted_none rfl | exact Go.Mix.wanted_tt rfl rfl rfl | exact Go.Mix.wanted_ff rfl rfl rfl); go_simp; (try (go_ints; try go_simp)); refine hK _ ?_; clear hK K))
  (first | (refine Go.Flo.fw_calm rfl ?_ (fun K hK => ?_); (first | exact Go.Mix.wanted_none rfl | exact Go.Mix.wanted_tt rfl rfl rfl | exact Go.Mix.wanted_ff rfl rfl rfl); go_big_quiet_op; refine hK _ ?_; clear hK K) | (refine Go.Flo.fw_skip ?_ (fun K hK => ?_); (first | exact Go.Mix.wanted_tf rfl rfl rfl | exact Go.Mix.wanted_ft rfl rfl rfl); go_simp; refine hK _ ?_; clear hK K) | (refine Go.Flo.fw_any rfl ?_ (fun K hK => ?_); (first | exact Go.Mix.wanted_none rfl | exact Go.Mix.wanted_tt rfl rfl rfl | exact Go.Mix.wanted_ff rfl rfl rfl); go_simp; (try (go_ints; try go_simp)); refine hK _ ?_; clear hK K))
  (first | (refine Go.Flo.fw_calm rfl ?_ (fun K hK => ?_); (first | exact Go.Mix.wanted_none rfl | exact Go.Mix.wanted_tt rfl rfl rfl | exact Go.Mix.wanted_ff rfl rfl rfl); go_big_quiet_op; refine hK _ ?_; clear hK K) | (refine Go.Flo.fw_skip ?_ (fun K hK => ?_); (first | exact Go.Mix.wanted_tf rfl rfl rfl | exact Go.Mix.wanted_ft rfl rfl rfl); go_simp; refine hK _ ?_; clear hK K) | (refine Go.Flo.fw_any rfl ?_ (fun K hK => ?_); (first | exact Go.Mix.wanted_none rfl | exact Go.Mix.wanted_tt rfl rfl rfl | exact Go.Mix.wanted_ff rfl rfl rfl); go_simp; (try (go_ints; try go_simp)); refine hK _ ?_; clear hK K))
  (first | (refine Go.Flo.fw_calm rfl ?_ (fun K hK => ?_); (first | exact Go.Mix.wanted_none rfl | exact Go.Mix.wanted_tt rfl rfl rfl | exact Go.Mix.wanted_ff rfl rfl rfl); go_big_quiet_op; refine hK _ ?_; clear hK K) | (refine Go.Flo.fw_skip ?_ (fun K hK => ?_); (first | exact Go.Mix.wanted_tf rfl rfl rfl | exact Go.Mix.wanted_ft rfl rfl rfl); go_simp; refine hK _ ?_; clear hK K) | (refine Go.Flo.fw_any rfl ?_ (fun K hK => ?_); (first | exact Go.Mix.wanted_none rfl | exact Go.Mix.wanted_tt rfl rfl rfl | exact Go.Mix.wanted_ff rfl rfl rfl); go_simp; (try (go_ints; try go_simp)); refine hK _ ?_; clear hK K))
  (first | (refine Go.Flo.fw_calm rfl ?_ (fun K hK => ?_); (first | exact Go.Mix.wanted_none rfl | exact Go.Mix.wanted_tt rfl rfl rfl | exact Go.Mix.wanted_ff rfl rfl rfl); go_big_quiet_op; refine hK _ ?_; clear hK K) | (refine Go.Flo.fw_skip ?_ (fun K hK => ?_); (first | exact Go.Mix.wanted_tf rfl rfl rfl | exact Go.Mix.wanted_ft rfl rfl rfl); go_simp; refine hK _ ?_; clear hK K) | (refine Go.Flo.fw_any rfl ?_ (fun K hK => ?_); (first | exact Go.Mix.wanted_none rfl | exact Go.Mix.wanted_tt rfl rfl rfl | exact Go.Mix.wanted_ff rfl rfl rfl); go_simp; (try (go_ints; try go_simp)); refine hK _ ?_; clear hK K))
  (first | (refine Go.Flo.fw_calm rfl ?_ (fun K hK => ?_); (first | exact Go.Mix.wanted_none rfl | exact Go.Mix.wanted_tt rfl rfl rfl | exact Go.Mix.wanted_ff rfl rfl rfl); go_big_quiet_op; refine hK _ ?_; clear hK K) | (refine Go.Flo.fw_skip ?_ (fun K hK => ?_); (first | exact Go.Mix.wanted_tf rfl rfl rfl | exact Go.Mix.wanted_ft rfl rfl rfl); go_simp; refine hK _ ?_; clear hK K) | (refine Go.Flo.fw_any rfl ?_ (fun K hK => ?_); (first | exact Go.Mix.wanted_none rfl | exact Go.Mix.wanted_tt rfl rfl rfl | exact Go.Mix.wanted_ff rfl rfl rfl); go_simp; (try (go_ints; try go_simp)); refine hK _ ?_; clear hK K))
  (first | (refine Go.Flo.fw_calm rfl ?_ (fun K hK => ?_); (first | exact Go.Mix.wanted_none rfl | exact Go.Mix.wanted_tt rfl rfl rfl | exact Go.Mix.wanted_ff rfl rfl rfl); go_big_quiet_op; refine hK _ ?_; clear hK K) | (refine Go.Flo.fw_skip ?_ (fun K hK => ?_); (first | exact Go.Mix.wanted_tf rfl rfl rfl | exact Go.Mix.wanted_ft rfl rfl rfl); go_simp; refine hK _ ?_; clear hK K) | (refine Go.Flo.fw_any rfl ?_ (fun K hK => ?_); (first | exact Go.Mix.wanted_none rfl | exact Go.Mix.wanted_tt rfl rfl rfl | exact Go.Mix.wanted_ff rfl rfl rfl); go_simp; (try (go_ints; try go_simp)); refine hK _ ?_; clear hK K))
  (first | (refine Go.Flo.fw_calm rfl ?_ (fun K hK => ?_); (first | exact Go.Mix.wanted_none rfl | exact Go.Mix.wanted_tt rfl rfl rfl | exact Go.Mix.wanted_ff rfl rfl rfl); go_big_quiet_op; refine hK _ ?_; clear hK K) | (refine Go.Flo.fw_skip ?_ (fun K hK => ?_); (first | exact Go.Mix.wanted_tf rfl rfl rfl | exact Go.Mix.wanted_ft rfl rfl rfl); go_simp; refine hK _ ?_; clear hK K) | (refine Go.Flo.fw_any rfl ?_ (fun K hK => ?_); (first | exact Go.Mix.wanted_none rfl | exact Go.Mix.wanted_tt rfl rfl rfl | exact Go.Mix.wanted_ff rfl rfl rfl); go_simp; (try (go_ints; try go_simp)); refine hK _ ?_; clear hK K))
  (first | (refine Go.Flo.fw_calm rfl ?_ (fun K hK => ?_); (first | exact Go.Mix.wanted_none rfl | exact Go.Mix.wanted_tt rfl rfl rfl | exact Go.Mix.wanted_ff rfl rfl rfl); go_big_quiet_op; refine hK _ ?_; clear hK K) | (refine Go.Flo.fw_skip ?_ (fun K hK => ?_); (first | exact Go.Mix.wanted_tf rfl rfl rfl | exact Go.Mix.wanted_ft rfl rfl rfl); go_simp; refine hK _ ?_; clear hK K) | (refine Go.Flo.fw_any rfl ?_ (fun K hK => ?_); (first | exact Go.Mix.wanted_none rfl | exact Go.Mix.wanted_tt rfl rfl rfl | exact Go.Mix.wanted_ff rfl rfl rfl); go_simp; (try (go_ints; try go_simp)); refine hK _ ?_; clear hK K))
  (first | (refine Go.Flo.fw_calm rfl ?_ (fun K hK => ?_); (first | exact Go.Mix.wanted_none rfl | exact Go.Mix.wanted_tt rfl rfl rfl | exact Go.Mix.wanted_ff rfl rfl rfl); go_big_quiet_op; refine hK _ ?_; clear hK K) | (refine Go.Flo.fw_skip ?_ (fun K hK => ?_); (first | exact Go.Mix.wanted_tf rfl rfl rfl | exact Go.Mix.wanted_ft rfl rfl rfl); go_simp; refine hK _ ?_; clear hK K) | (refine Go.Flo.fw_any rfl ?_ (fun K hK => ?_); (first | exact Go.Mix.wanted_none rfl | exact Go.Mix.wanted_tt rfl rfl rfl | exact Go.Mix.wanted_ff rfl rfl rfl); go_simp; (try (go_ints; try go_simp)); refine hK _ ?_; clear hK K))
  (first | (refine Go.Flo.fw_calm rfl ?_ (fun K hK => ?_); (first | exact Go.Mix.wanted_none rfl | exact Go.Mix.wanted_tt rfl rfl rfl | exact Go.Mix.wanted_ff rfl rfl rfl); go_big_quiet_op; refine hK _ ?_; clear hK K) | (refine Go.Flo.fw_skip ?_ (fun K hK => ?_); (first | exact Go.Mix.wanted_tf rfl rfl rfl | exact Go.Mix.wanted_ft rfl rfl rfl); go_simp; refine hK _ ?_; clear hK K) | (refine Go.Flo.fw_any rfl ?_ (fun K hK => ?_); (first | exact Go.Mix.wanted_none rfl | exact Go.Mix.wanted_tt rfl rfl rfl | exact Go.Mix.wanted_ff rfl rfl rfl); go_simp; (try (go_ints; try go_simp)); refine hK _ ?_; clear hK K))
  (refine Go.Flo.fw_calm rfl ?_ (fun K hK => ?_); (first | exact Go.Mix.wanted_none rfl | exact Go.Mix.wanted_tt rfl rfl rfl | exact Go.Mix.wanted_ff rfl rfl rfl); refine Go.Flo.quiet_load_row 96 _ rfl _ rfl _ #[.int .u8 0, .int .i8 (c3 0), .int .i8 (c3 1), .int .i8 (c3 2), .int .i8 (c3 3), .int .i8 (c3 4), .int .i8 (c3 5), .int .i8 (c3 0), .int .i8 (c3 1), .int .i8 (c3 2), .int .i8 (c3 3), .int .i8 (c3 4), .int .i8 (c3 5)] _ (by rintro _ ⟨i, rfl⟩; exact ((HW.out i).block _ l6).trans e6) Try.underlying96 rfl size_tn ?_; go_simp; refine hK _ ?_; clear hK K)
  refine Go.Flo.fw_loud rfl ?_ rfl (by simp) (fun wv hwv hav K hK => ?_) (fun v hv K hK => ?_)
  · (first | exact Go.Mix.wanted_none rfl | exact Go.Mix.wanted_tt rfl rfl rfl | exact Go.Mix.wanted_ff rfl rfl rfl)
  · obtain ⟨iv, rfl⟩ := hwv
    have hbv := HW.out iv
    (first | go_big_op | go_simp)
    go_at_call 51
    refine (Active_any 0 c3 c3 _).mono ?_
    rintro e w' ⟨rfl, hb⟩
    rw [show actC 0 c3 c3 = c3 from rfl]
    exact hK _ _ (Go.Flo.owes_is _ rfl hb)
  obtain rfl := hv.is
  go_simp
  refine hK _ ?_
  clear hK K hv
  (refine Go.Flo.fw_calm rfl ?_ (fun K hK => ?_); (first | exact Go.Mix.wanted_none rfl | exact Go.Mix.wanted_tt rfl rfl rfl | exact Go.Mix.wanted_ff rfl rfl rfl); refine Go.Flo.quiet_load_row 67 _ rfl _ rfl _ #[.int .i8 (c3 0), .int .i8 (c3 1), .int .i8 (c3 2), .int .i8 (c3 3), .int .i8 (c3 4), .int .i8 (c3 5)] _ (by rintro _ ⟨i, rfl⟩; exact ((HW.out i).block _ l2).trans b2) Try.underlying67 rfl size_ch ?_; go_simp; refine hK _ ?_; clear hK K)
  have he := HE.out
  (first | (refine Go.Flo.fw_calm rfl ?_ (fun K hK => ?_); (first | exact Go.Mix.wanted_none rfl | exact Go.Mix.wanted_tt rfl rfl rfl | exact Go.Mix.wanted_ff rfl rfl rfl); go_big_quiet_op; refine hK _ ?_; clear hK K) | (refine Go.Flo.fw_skip ?_ (fun K hK => ?_); (first | exact Go.Mix.wanted_tf rfl rfl rfl | exact Go.Mix.wanted_ft rfl rfl rfl); go_simp; refine hK _ ?_; clear hK K) | (refine Go.Flo.fw_any rfl ?_ (fun K hK => ?_); (first | exact Go.Mix.wanted_none rfl | exact Go.Mix.wanted_tt rfl rfl rfl | exact Go.Mix.wanted_ff rfl rfl rfl); go_simp; (try (go_ints; try go_simp)); refine hK _ ?_; clear hK K))
  clear he
  (first | (refine Go.Flo.fw_calm rfl ?_ (fun K hK => ?_); (first | exact Go.Mix.wanted_none rfl | exact Go.Mix.wanted_tt rfl rfl rfl | exact Go.Mix.wanted_ff rfl rfl rfl); go_big_quiet_op; refine hK _ ?_; clear hK K) | (refine Go.Flo.fw_skip ?_ (fun K hK => ?_); (first | exact Go.Mix.wanted_tf rfl rfl rfl | exact Go.Mix.wanted_ft rfl rfl rfl); go_simp; refine hK _ ?_; clear hK K) | (refine Go.Flo.fw_any rfl ?_ (fun K hK => ?_); (first | exact Go.Mix.wanted_none rfl | exact Go.Mix.wanted_tt rfl rfl rfl | exact Go.Mix.wanted_ff rfl rfl rfl); go_simp; (try (go_ints; try go_simp)); refine hK _ ?_; clear hK K))
  (first | (refine Go.Flo.fw_calm rfl ?_ (fun K hK => ?_); (first | exact Go.Mix.wanted_none rfl | exact Go.Mix.wanted_tt rfl rfl rfl | exact Go.Mix.wanted_ff rfl rfl rfl); go_big_quiet_op; refine hK _ ?_; clear hK K) | (refine Go.Flo.fw_skip ?_ (fun K hK => ?_); (first | exact Go.Mix.wanted_tf rfl rfl rfl | exact Go.Mix.wanted_ft rfl rfl rfl); go_simp; refine hK _ ?_; clear hK K) | (refine Go.Flo.fw_any rfl ?_ (fun K hK => ?_); (first | exact Go.Mix.wanted_none rfl | exact Go.Mix.wanted_tt rfl rfl rfl | exact Go.Mix.wanted_ff rfl rfl rfl); go_simp; (try (go_ints; try go_simp)); refine hK _ ?_; clear hK K))
  (refine Go.Flo.fw_calm rfl ?_ (fun K hK => ?_); (first | exact Go.Mix.wanted_none rfl | exact Go.Mix.wanted_tt rfl rfl rfl | exact Go.Mix.wanted_ff rfl rfl rfl); refine Go.Flo.quiet_load_row 96 _ rfl _ rfl _ #[.int .u8 3, .int .i8 (noneC 0), .int .i8 (noneC 1), .int .i8 (noneC 2), .int .i8 (noneC 3), .int .i8 (noneC 4), .int .i8 (noneC 5), .int .i8 (c3 0), .int .i8 (c3 1), .int .i8 (c3 2), .int .i8 (c3 3), .int .i8 (c3 4), .int .i8 (c3 5)] _ (by rintro _ ⟨i, rfl⟩; exact ((HW.out i).block _ l3).trans b3) Try.underlying96 rfl size_tn ?_; go_simp; refine hK _ ?_; clear hK K)
  refine Go.Flo.fw_loud rfl ?_ rfl (by simp) (fun wv hwv hav K hK => ?_) (fun v hv K hK => ?_)
  · (first | exact Go.Mix.wanted_none rfl | exact Go.Mix.wanted_tt rfl rfl rfl | exact Go.Mix.wanted_ff rfl rfl rfl)
  · obtain ⟨iv, rfl⟩ := hwv
    have hbv := HW.out iv
    (first | go_big_op | go_simp)
    go_at_call 51
    refine (Active_any 3 noneC c3 _).mono ?_
    rintro e w' ⟨rfl, hb⟩
    rw [show actC 3 noneC c3 = c3 from rfl]
    exact hK _ _ (Go.Flo.owes_is _ rfl hb)
  obtain rfl := hv.is
  go_simp
  refine hK _ ?_
  clear hK K hv
  (refine Go.Flo.fw_calm rfl ?_ (fun K hK => ?_); (first | exact Go.Mix.wanted_none rfl | exact Go.Mix.wanted_tt rfl rfl rfl | exact Go.Mix.wanted_ff rfl rfl rfl); refine Go.Flo.quiet_load_row 67 _ rfl _ rfl _ #[.int .i8 (c3 0), .int .i8 (c3 1), .int .i8 (c3 2), .int .i8 (c3 3), .int .i8 (c3 4), .int .i8 (c3 5)] _ (by rintro _ ⟨i, rfl⟩; exact ((HW.out i).block _ l2).trans b2) Try.underlying67 rfl size_ch ?_; go_simp; refine hK _ ?_; clear hK K)
  have he := HE.out
  (first | (refine Go.Flo.fw_calm rfl ?_ (fun K hK => ?_); (first | exact Go.Mix.wanted_none rfl | exact Go.Mix.wanted_tt rfl rfl rfl | exact Go.Mix.wanted_ff rfl rfl rfl); go_big_quiet_op; refine hK _ ?_; clear hK K) | (refine Go.Flo.fw_skip ?_ (fun K hK => ?_); (first | exact Go.Mix.wanted_tf rfl rfl rfl | exact Go.Mix.wanted_ft rfl rfl rfl); go_simp; refine hK _ ?_; clear hK K) | (refine Go.Flo.fw_any rfl ?_ (fun K hK => ?_); (first | exact Go.Mix.wanted_none rfl | exact Go.Mix.wanted_tt rfl rfl rfl | exact Go.Mix.wanted_ff rfl rfl rfl); go_simp; (try (go_ints; try go_simp)); refine hK _ ?_; clear hK K))
  clear he
  (repeat (first | (refine Go.Flo.fw_calm rfl ?_ (fun K hK => ?_); (first | exact Go.Mix.wanted_none rfl | exact Go.Mix.wanted_tt rfl rfl rfl | exact Go.Mix.wanted_ff rfl rfl rfl); go_big_quiet_op; refine hK _ ?_; clear hK K) | (refine Go.Flo.fw_skip ?_ (fun K hK => ?_); (first | exact Go.Mix.wanted_tf rfl rfl rfl | exact Go.Mix.wanted_ft rfl rfl rfl); go_simp; refine hK _ ?_; clear hK K) | (refine Go.Flo.fw_any rfl ?_ (fun K hK => ?_); (first | exact Go.Mix.wanted_none rfl | exact Go.Mix.wanted_tt rfl rfl rfl | exact Go.Mix.wanted_ff rfl rfl rfl); go_simp; (try (go_ints; try go_simp)); refine hK _ ?_; clear hK K)))
  refine Go.Flo.fw_nil ?_
  intro we hwwe hfwe huwe
  refine Go.Flo.tw_nil ?_
  obtain ⟨iend, hiend⟩ := hwwe
  have hbwe := HW.out iend
  rw [← hiend] at hbwe
  clear hiend iend huwe
  have HB := Lib.hid (HAd.out.be.trans (hbwe.mono HAd.out.be.size))
  clear hfwe HJ HW hne hbwe b2 b3 b4 HAd HE
  go_wp2_with fail
  go_ret
  exact ⟨rfl, HB.out⟩
end Go.Proofs.Ytboojcahflkkmaa
