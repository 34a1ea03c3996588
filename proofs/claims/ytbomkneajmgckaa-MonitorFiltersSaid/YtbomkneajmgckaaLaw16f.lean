/- Layer 16: filters. -/
import Derived.Test.YtbomkneajmgckaaLaw16g
namespace Go.Proofs.Ytbomkneajmgckaa
open Go.RowKit Go.Own
set_option linter.unusedVariables false
set_option linter.unusedSimpArgs false
theorem gK_r (good R ev : Int) (k : Nat) : (gK good R ev k).r = rG good R ev := by unfold gK; split <;> rfl
theorem bK_r (good bad R ev : Int) (k : Nat) : (bK good bad R ev k).r = rG good R ev := by unfold bK; split <;> rfl
theorem bK_st (good bad R ev : Int) (k : Nat) : (bK good bad R ev k).st = 1 := by unfold bK; split <;> rfl
theorem ch1_same {q q2 : Wt} {v : Int} (h : q2.st = q.st) : ch1 q q2 v = [] := by unfold ch1; rw [if_neg (by simp [h])]
theorem vios1_no {q : Wt} (h : vio q.st = false) : (M1 q).vios 1 = [] := by
  show [] ++ (if (M1 q).vi 0 = true then [0] else []) = []
  rw [if_neg (by show ¬ (q.r.en && vio q.st) = true; rw [h]; simp)]; rfl
theorem vios1_yes {q : Wt} (h : vio q.st = true) (he : q.r.en = true) : (M1 q).vios 1 = [0] := by
  show [] ++ (if (M1 q).vi 0 = true then [0] else []) = [0]
  rw [if_pos (by show (q.r.en && vio q.st) = true; rw [h, he]; rfl)]; rfl
theorem own_formC {w : World} {base m : Nat} {e : TypeId} {size : Nat} {v : Value} {xs : List Value} (h : w.ownsRow base e size v m xs) : ∃ a c, v = .slice a m c := by
  obtain ⟨h1, ⟨h2, h3⟩ | ⟨g', cap, cur, hv, hb', hr, ho⟩⟩ := h
  · exact ⟨none, 0, by simp_all⟩
  · exact ⟨_, _, hv⟩
/-- Where the law stands. -/
structure FSt (w wr : World) (g0 gm ga gb : Nat) (rx : Rl) (q : Wt) (good bad : Int) : Prop where
  be : Below w.heap.size w wr
  b0 : wr.heap[g0]? = some (.cells rx.cs 114 (0, 0))
  bm : MnB wr gm (M1 q)
  ba : wr.heap[ga]? = some (.cells (pcs (psAt 2 good)) 124 (0, 0))
  bb : wr.heap[gb]? = some (.cells (pcs (psAt 2 bad)) 124 (0, 0))
  hm : w.heap.size ≤ gm
  n0 : gm ≠ g0
  na : gm ≠ ga
  nb : gm ≠ gb
theorem FSt.step {w wr w' : World} {g0 gm ga gb : Nat} {rx : Rl} {q : Wt} {good bad : Int} (h : FSt w wr g0 gm ga gb rx q good bad) (hb : Below wr.heap.size wr w') : FSt w w' g0 gm ga gb rx q good bad :=
  ⟨h.be.trans (hb.mono h.be.size), box_below h.b0 hb (box_lt h.b0), h.bm.below hb (Nat.le_refl _), box_below h.ba hb (box_lt h.ba), box_below h.bb hb (box_lt h.bb), h.hm, h.n0, h.na, h.nb⟩
theorem FSt.put {w wr : World} {g0 gm ga gb : Nat} {rx : Rl} {q : Wt} {good bad : Int} (h : FSt w wr g0 gm ga gb rx q good bad) (q' : Wt) : FSt w (wr.setRow gm (M1 q').cs) g0 gm ga gb rx q' good bad :=
  ⟨bel_row h.be h.hm _, (setRow_other _ _ _ _ (Ne.symm h.n0)).trans h.b0, setRow_heap _ _ _ _ _ _ h.bm, (setRow_other _ _ _ _ (Ne.symm h.na)).trans h.ba, (setRow_other _ _ _ _ (Ne.symm h.nb)).trans h.bb, h.hm, h.n0, h.na, h.nb⟩
theorem FSt.other {w wr : World} {g0 gm ga gb gn : Nat} {rx : Rl} {q : Wt} {good bad : Int} (h : FSt w wr g0 gm ga gb rx q good bad) (h1 : w.heap.size ≤ gn) (h2 : gn ≠ gm) (h3 : gn ≠ ga) (h4 : gn ≠ gb) (h5 : gn ≠ g0) (c : Array Value) : FSt w (wr.setRow gn c) g0 gm ga gb rx q good bad :=
  ⟨bel_row h.be h1 _, (setRow_other _ _ _ _ (Ne.symm h5)).trans h.b0, (setRow_other _ _ _ _ (Ne.symm h2)).trans h.bm, (setRow_other _ _ _ _ (Ne.symm h3)).trans h.ba, (setRow_other _ _ _ _ (Ne.symm h4)).trans h.bb, h.hm, h.n0, h.na, h.nb⟩
theorem rl_sets (r : Rl) (a1 R : Int) : ((((((((((r.cs.setIfInBounds 0 (.int .u8 0)).setIfInBounds 1 (.int .i64 2)).setIfInBounds 2 (.int .i32 a1)).setIfInBounds 3 (.int .i32 a1)).setIfInBounds 4 (.int .u32 0)).setIfInBounds 5 (.int .u32 0)).setIfInBounds 6 (.int .u8 R)).setIfInBounds 8 (.int .u8 0)).setIfInBounds 9 (.int .i64 (-1))).setIfInBounds 10 (.bool true)) = (rG a1 R r.ev).cs := by simp [Rl.cs, rG]
theorem pcs_lit (v : Int) : (#[.int .i32 0, .int .i32 0, .int .i32 v, .int .i32 0, .int .i32 0, .int .i32 0, .int .i32 0, .int .i32 0, .int .i32 0, .int .i32 0, .int .i32 0, .int .i32 0, .int .i32 0, .int .i32 0, .int .i32 0, .int .i32 0] : Array Value) = pcs (psAt 2 v) := pcs_eq rfl (all16 rfl rfl rfl rfl rfl rfl rfl rfl rfl rfl rfl rfl rfl rfl rfl rfl)
set_option maxRecDepth 100000 in
set_option maxHeartbeats 8000000 in
theorem walk_MonitorFilters (cs0 : List Value) (a1 a2 a3 : Int) (w : World) (w0 : Fit w [.int .u8, .int .i64, .int .i32, .int .i32, .int .u32, .int .u32, .int .u8, .int .u8, .int .u8, .int .i64, .bool] cs0) (w1 : (Lit.int .i32 a1).wf = true) (w2 : (Lit.int .i32 a2).wf = true) (w3 : (Lit.int .u8 a3).wf = true) :
    Calls Try.prog 12 #[.agg cs0.toArray, .int .i32 a1, .int .i32 a2, .int .u8 a3] w fun e w' => e = .returned (.bool true) ∧ Below w.heap.size w w' := by
  obtain ⟨r, hr, hok⟩ := rl_fit w0
  rw [hr]
  have c1 := bounds_i32 w1
  have c2 := bounds_i32 w2
  have c3 := bounds_u8 w3
  clear w0 w1 w2 w3 hr
  have g0 := heap_alloc_new w (.cells r.cs 114)
  have hb0 := (Below.refl w.heap.size w).alloc (Nat.le_refl _) (.cells r.cs 114)
  go_enter Try.func12, Try.ntmps12
  go_wp2_with fail
  obtain ⟨gr, hg⟩ : ∃ g, g = w.heap.size := ⟨_, rfl⟩
  obtain ⟨wa, hwa⟩ : ∃ wa, wa = w.alloc (.cells r.cs 114) := ⟨_, rfl⟩
  rw [← hwa] at hb0 g0 ⊢
  rw [← hg] at g0 ⊢
  have HG := Lib.hid (show w.heap.size ≤ gr by omega)
  clear hwa hg
  go_at_call 55
  refine (awake16 _).mono ?_
  rintro e wb ⟨rfl, hb1⟩
  have g1 := box_below g0 hb1 (box_lt g0)
  have HB1 := Lib.hid (hb0.trans (hb1.mono hb0.size))
  clear g0 hb0 hb1
  by_cases hne : a1 = a2
  · have he : (a1 == a2) = true := by simp [hne]
    clear hne g1
    go_wp2
    go_ret
    exact ⟨rfl, HB1.out⟩
  have he : (a1 == a2) = false := by simp [hne]
  have HNE := Lib.hid hne
  obtain ⟨R, hR⟩ : ∃ R : Nat, 1 + a3 % 20 = R ∧ 1 ≤ R ∧ R ≤ 20 := ⟨(1 + a3 % 20).toNat, by omega, by omega, by omega⟩
  have hR1 := hR.1
  have HR := Lib.hid hR.2
  have hev := Lib.hid (And.intro hok.ev0 hok.ev1)
  obtain ⟨rx, hrx⟩ : ∃ rx, rx = rG a1 (R : Int) r.ev := ⟨_, rfl⟩
  have HRX := Lib.hid hrx
  have a0 : _ = some (Value.int .u8 r.d.k) := cell_of_row _ _ 0 _ _ _ g1
  have a1' : _ = some (Value.int .i64 r.d.p) := cell_of_row _ _ 1 _ _ _ g1
  have a2' : _ = some (Value.int .i32 r.d.l) := cell_of_row _ _ 2 _ _ _ g1
  have a3' : _ = some (Value.int .i32 r.d.h) := cell_of_row _ _ 3 _ _ _ g1
  have a4 : _ = some (Value.int .u32 ((r.d.m : Nat) : Int)) := cell_of_row _ _ 4 _ _ _ g1
  have a5 : _ = some (Value.int .u32 ((r.d.n : Nat) : Int)) := cell_of_row _ _ 5 _ _ _ g1
  have a6 : _ = some (Value.int .u8 r.rep) := cell_of_row _ _ 6 _ _ _ g1
  have a8 : _ = some (Value.int .u8 r.lev) := cell_of_row _ _ 8 _ _ _ g1
  have a9 : _ = some (Value.int .i64 r.un) := cell_of_row _ _ 9 _ _ _ g1
  have a10 : _ = some (Value.bool r.en) := cell_of_row _ _ 10 _ _ _ g1
  have f0 := frozen_of_row _ gr 0 _ _ g1
  have f1 := frozen_of_row _ gr 1 _ _ g1
  have f2 := frozen_of_row _ gr 2 _ _ g1
  have f3 := frozen_of_row _ gr 3 _ _ g1
  have f4 := frozen_of_row _ gr 4 _ _ g1
  have f5 := frozen_of_row _ gr 5 _ _ g1
  have f6 := frozen_of_row _ gr 6 _ _ g1
  have f8 := frozen_of_row _ gr 8 _ _ g1
  have f9 := frozen_of_row _ gr 9 _ _ g1
  have f10 := frozen_of_row _ gr 10 _ _ g1
  clear hne hR hrx hok
  go_upto_region 7 with fail
  have h7 : ((((((((((wb.setCell ⟨gr, 0, none⟩ (.int .u8 0)).setCell ⟨gr, 1, none⟩ (.int .i64 2)).setCell ⟨gr, 2, none⟩ (.int .i32 a1)).setCell ⟨gr, 3, none⟩ (.int .i32 a1)).setCell ⟨gr, 4, none⟩ (.int .u32 0)).setCell ⟨gr, 5, none⟩ (.int .u32 0)).setCell ⟨gr, 6, none⟩ (.int .u8 (R : Int))).setCell ⟨gr, 8, none⟩ (.int .u8 0)).setCell ⟨gr, 9, none⟩ (.int .i64 (-1))).setCell ⟨gr, 10, none⟩ (.bool true)).heap[gr]? = some (.cells rx.cs 114 (0, 0)) := by
    rw [HRX.out, ← rl_sets r a1 R]; exact (heap_setCell_same _ gr 10 _ _ _ (heap_setCell_same _ gr 9 _ _ _ (heap_setCell_same _ gr 8 _ _ _ (heap_setCell_same _ gr 6 _ _ _ (heap_setCell_same _ gr 5 _ _ _ (heap_setCell_same _ gr 4 _ _ _ (heap_setCell_same _ gr 3 _ _ _ (heap_setCell_same _ gr 2 _ _ _ (heap_setCell_same _ gr 1 _ _ _ (heap_setCell_same _ gr 0 _ _ _ g1))))))))))
  have hb7 : Below w.heap.size w ((((((((((wb.setCell ⟨gr, 0, none⟩ (.int .u8 0)).setCell ⟨gr, 1, none⟩ (.int .i64 2)).setCell ⟨gr, 2, none⟩ (.int .i32 a1)).setCell ⟨gr, 3, none⟩ (.int .i32 a1)).setCell ⟨gr, 4, none⟩ (.int .u32 0)).setCell ⟨gr, 5, none⟩ (.int .u32 0)).setCell ⟨gr, 6, none⟩ (.int .u8 (R : Int))).setCell ⟨gr, 8, none⟩ (.int .u8 0)).setCell ⟨gr, 9, none⟩ (.int .i64 (-1))).setCell ⟨gr, 10, none⟩ (.bool true)) := ((((((((((HB1.out.setCell (p := ⟨gr, 0, none⟩) HG.out (.int .u8 0)).setCell (p := ⟨gr, 1, none⟩) HG.out (.int .i64 2)).setCell (p := ⟨gr, 2, none⟩) HG.out (.int .i32 a1)).setCell (p := ⟨gr, 3, none⟩) HG.out (.int .i32 a1)).setCell (p := ⟨gr, 4, none⟩) HG.out (.int .u32 0)).setCell (p := ⟨gr, 5, none⟩) HG.out (.int .u32 0)).setCell (p := ⟨gr, 6, none⟩) HG.out (.int .u8 (R : Int))).setCell (p := ⟨gr, 8, none⟩) HG.out (.int .u8 0)).setCell (p := ⟨gr, 9, none⟩) HG.out (.int .i64 (-1))).setCell (p := ⟨gr, 10, none⟩) HG.out (.bool true))
  obtain ⟨wc, hwc⟩ : ∃ wc, wc = ((((((((((wb.setCell ⟨gr, 0, none⟩ (.int .u8 0)).setCell ⟨gr, 1, none⟩ (.int .i64 2)).setCell ⟨gr, 2, none⟩ (.int .i32 a1)).setCell ⟨gr, 3, none⟩ (.int .i32 a1)).setCell ⟨gr, 4, none⟩ (.int .u32 0)).setCell ⟨gr, 5, none⟩ (.int .u32 0)).setCell ⟨gr, 6, none⟩ (.int .u8 (R : Int))).setCell ⟨gr, 8, none⟩ (.int .u8 0)).setCell ⟨gr, 9, none⟩ (.int .i64 (-1))).setCell ⟨gr, 10, none⟩ (.bool true)) := ⟨_, rfl⟩
  rw [← hwc] at h7 hb7 ⊢
  clear hwc g1 HB1 a0 a1' a2' a3' a4 a5 a6 a8 a9 a10 f0 f1 f2 f3 f4 f5 f6 f8 f9 f10
  have HB7 := Lib.hid hb7
  have HGL := Lib.hid (box_lt h7)
  clear hb7
  have hal : Below wc.heap.size wc (wc.alloc (.cells rx.cs 114)) := (Below.refl _ _).alloc (Nat.le_refl _) _
  have hlit : (#[.int .u8 0, .int .i64 2, .int .i32 a1, .int .i32 a1, .int .u32 0, .int .u32 0, .int .u8 (R : Int), .int .u8 r.ev, .int .u8 0, .int .i64 (-1), .bool true] : Array Value) = rx.cs := by rw [HRX.out]; rfl
  have HR1 := Lib.hid (rus_one (heap_alloc_new wc (.cells rx.cs 114)))
  have h8 := box_below h7 hal (box_lt h7)
  rw [← hlit] at h7
  have HLIT := Lib.hid hlit
  clear hlit
  have HB8 := Lib.hid (HB7.out.trans (hal.mono HB7.out.size))
  have HRO := Lib.hid (show rx.ok ∧ rx.right = true by rw [HRX.out]; exact rG_ok c1.1 c1.2 (by have := HR.out; omega) (by have := HR.out; omega) hev.out.1 hev.out.2)
  clear hal
  go_wp2_with (refine wpList_load_row rfl 114 _ rfl _ rfl _ _ _ _ h7 Try.underlying114 rfl (by exact size_rl rx) ?_; (try go_simp))
  rw [HLIT.out]
  go_at_call 56
  refine (mNew _ 1 1 (fun _ => rx) _ HR1.out (fun _ _ => HRO.out.1)).mono ?_
  rintro e wd ⟨hb1, ⟨_, rfl⟩ | ⟨hno, _⟩⟩
  case inr => exact absurd (show newOk 1 (fun _ => rx) from ⟨by decide, fun _ _ => HRO.out.2⟩) hno
  rw [M1_new, show (⟨rx, false, 0, 0, 0, 0⟩ : Wt) = gK a1 R r.ev 0 from by rw [HRX.out]; rfl]
  have h9 := box_below h8 hb1 (box_lt h8)
  have HB9 := Lib.hid (HB8.out.trans (hb1.mono HB8.out.size))
  have hgd : gr < wd.heap.size := box_lt h9
  clear h7 h8 hb1 HR1 HB7 HB8
  go_upto_region 8 with (refine wpList_store_row rfl 121 _ _ rfl _ (Mn.cs _) rfl rfl 121 _ (heap_alloc_new wd (.cells (Mn.empty 0).cs 121)) (size_mn _) (by simp only [Mn.size]) (Mn.one _) ?_; rw [World.setRow_alloc_new]; (try go_simp))
  go_upto_region 12 with fail
  have hb2 : Below wd.heap.size wd (((wd.alloc (.cells (M1 (gK a1 R r.ev 0)).cs 121)).alloc (.cells (#[.int .i32 0, .int .i32 0, .int .i32 a1, .int .i32 0, .int .i32 0, .int .i32 0, .int .i32 0, .int .i32 0, .int .i32 0, .int .i32 0, .int .i32 0, .int .i32 0, .int .i32 0, .int .i32 0, .int .i32 0, .int .i32 0] : Array Value) 124)).alloc (.cells (#[.int .i32 0, .int .i32 0, .int .i32 a2, .int .i32 0, .int .i32 0, .int .i32 0, .int .i32 0, .int .i32 0, .int .i32 0, .int .i32 0, .int .i32 0, .int .i32 0, .int .i32 0, .int .i32 0, .int .i32 0, .int .i32 0] : Array Value) 124)) := by repeat' (first | (with_reducible exact Below.refl _ _) | (with_reducible assumption) | (with_reducible refine Below.setCell ?_ ?_ _) | (with_reducible refine Below.alloc ?_ ?_ _) | (with_reducible refine Below.drew ?_) | (with_reducible refine Below.drawsN ?_ _) | go_size)
  have h3 := heap3m wd (.cells (M1 (gK a1 R r.ev 0)).cs 121) (.cells (#[.int .i32 0, .int .i32 0, .int .i32 a1, .int .i32 0, .int .i32 0, .int .i32 0, .int .i32 0, .int .i32 0, .int .i32 0, .int .i32 0, .int .i32 0, .int .i32 0, .int .i32 0, .int .i32 0, .int .i32 0, .int .i32 0] : Array Value) 124) (.cells (#[.int .i32 0, .int .i32 0, .int .i32 a2, .int .i32 0, .int .i32 0, .int .i32 0, .int .i32 0, .int .i32 0, .int .i32 0, .int .i32 0, .int .i32 0, .int .i32 0, .int .i32 0, .int .i32 0, .int .i32 0, .int .i32 0] : Array Value) 124)
  have hS : FSt w (((wd.alloc (.cells (M1 (gK a1 R r.ev 0)).cs 121)).alloc (.cells (#[.int .i32 0, .int .i32 0, .int .i32 a1, .int .i32 0, .int .i32 0, .int .i32 0, .int .i32 0, .int .i32 0, .int .i32 0, .int .i32 0, .int .i32 0, .int .i32 0, .int .i32 0, .int .i32 0, .int .i32 0, .int .i32 0] : Array Value) 124)).alloc (.cells (#[.int .i32 0, .int .i32 0, .int .i32 a2, .int .i32 0, .int .i32 0, .int .i32 0, .int .i32 0, .int .i32 0, .int .i32 0, .int .i32 0, .int .i32 0, .int .i32 0, .int .i32 0, .int .i32 0, .int .i32 0, .int .i32 0] : Array Value) 124)) gr wd.heap.size (wd.heap.size + 1) (wd.heap.size + 1 + 1) rx (gK a1 R r.ev 0) a1 a2 :=
    ⟨HB9.out.trans (hb2.mono HB9.out.size), box_below h9 hb2 (box_lt h9), h3.1, h3.2.1.trans (by rw [pcs_lit]), h3.2.2.trans (by rw [pcs_lit]), HB9.out.size, by omega, by omega, by omega⟩
  have HS := Lib.hid hS
  clear hS h3 hb2 h9 HB9
  obtain ⟨gb, hgb⟩ : ∃ g, g = wd.heap.size + 1 + 1 := ⟨_, rfl⟩
  obtain ⟨ga, hga⟩ : ∃ g, g = wd.heap.size + 1 := ⟨_, rfl⟩
  obtain ⟨gm, hgm⟩ : ∃ g, g = wd.heap.size := ⟨_, rfl⟩
  obtain ⟨ws, hws⟩ : ∃ ws, ws = (((wd.alloc (.cells (M1 (gK a1 R r.ev 0)).cs 121)).alloc (.cells (#[.int .i32 0, .int .i32 0, .int .i32 a1, .int .i32 0, .int .i32 0, .int .i32 0, .int .i32 0, .int .i32 0, .int .i32 0, .int .i32 0, .int .i32 0, .int .i32 0, .int .i32 0, .int .i32 0, .int .i32 0, .int .i32 0] : Array Value) 124)).alloc (.cells (#[.int .i32 0, .int .i32 0, .int .i32 a2, .int .i32 0, .int .i32 0, .int .i32 0, .int .i32 0, .int .i32 0, .int .i32 0, .int .i32 0, .int .i32 0, .int .i32 0, .int .i32 0, .int .i32 0, .int .i32 0, .int .i32 0] : Array Value) 124)) := ⟨_, rfl⟩
  rw [← hgb, ← hga, ← hgm, ← hws] at HS
  rw [← hgb, ← hga, ← hgm, ← hws]
  clear hgb hga hgm hws hgd
  have c6 : ws.cell? ⟨gr, 6, none⟩ = some (.int .u8 (R : Int)) := by have := cell_of_row _ _ 6 _ _ _ HS.out.b0; rw [← HLIT.out] at this; exact this
  have hR1x : 1 ≤ R ∧ R ≤ 20 := HR.out
  go_wp2_with fail
  clear c6
  have HGK := Lib.hid (fun k => gK_ok (good := a1) (R := (R : Int)) (ev := r.ev) c1.1 c1.2 (by omega) (by omega) hev.out.1 hev.out.2 k)
  have HBK := Lib.hid (fun (j : Nat) (hj : (j : Int) ≤ 255) => bK_ok (good := a1) (bad := a2) (R := (R : Int)) (ev := r.ev) c1.1 c1.2 c2.1 c2.2 (by omega) (by omega) hev.out.1 hev.out.2 j hj)
  have HZK := Lib.hid (zK_ok (good := a1) (bad := a2) (R := (R : Int)) (ev := r.ev) c1.1 c1.2 c2.1 c2.2 (by omega) (by omega) hev.out.1 hev.out.2)
  have HP1 := Lib.hid (psAt_ok (j := 2) c1.1 c1.2)
  have HP2 := Lib.hid (psAt_ok (j := 2) c2.1 c2.2)
  clear c1 c2 c3 hR1
  go_loopw [48] (fun i wr => ∃ k : Nat, k ≤ R + 1 ∧ i = .int .i64 (k : Nat) ∧ FSt w wr gr gm ga gb rx (gK a1 R r.ev k) a1 a2) (fun i _ => R + 1 - (intOf i).toNat)
  case atStart => exact ⟨0, by omega, rfl, HS.out⟩
  case round =>
    obtain ⟨k, hk, rfl, hS⟩ := hrel
    clear HS
    have HS := Lib.hid hS
    clear hS
    by_cases hlt : k < R + 1
    · have hltI : (k : Int) < (R : Int) + 1 := by omega
      have hbm := HS.out.bm
      have hba := HS.out.ba
      go_wp2_with (first | (refine wpList_load_row rfl 121 _ rfl _ rfl _ _ _ _ hbm Try.underlying121 rfl (by exact size_mn _) ?_; (try go_simp)) | (refine wpList_load_row rfl 124 _ rfl _ rfl _ _ _ _ hba Try.underlying124 rfl (by exact size_pcs _) ?_; (try go_simp)))
      go_at_call 57
      refine (mStep1 (gK a1 R r.ev k) (gK a1 R r.ev (k + 1)) (psAt 2 a1) a1 _ (HGK.out k) HP1.out (by rw [gK_r]; rfl) (by rw [gK_r]; rfl) (gK_step (by omega) k) _ rfl).mono ?_
      rintro e w' ⟨z, rfl, ho, hb⟩
      obtain ⟨za, zc, rfl⟩ := cho_len ho
      have HS2 := Lib.hid (HS.out.step hb)
      have hbm2 := HS2.out.bm
      clear ho hb HS hbm hba
      go_wp2_with (refine wpList_store_row rfl 121 _ _ rfl _ (Mn.cs _) rfl rfl 121 _ hbm2 (size_mn _) (by simp only [Mn.size]) (Mn.one _) ?_; (try go_simp))
      have HS := Lib.hid (HS2.out.put (gK a1 R r.ev (k + 1)))
      clear HS2 hbm2
      go_roundw
      case rel => exact ⟨k + 1, by omega, by go_num, HS.out⟩
      case measure => simp [intOf]; omega
    · obtain rfl : k = R + 1 := by omega
      have hS := HS.out
      rw [gK_end (bad := a2) (R + 1) (by omega) (by omega)] at hS
      clear HS
      have HS := Lib.hid hS
      clear hS
      rw [show (((R + 1 : Nat) : Int)) = (R : Int) + 1 from by omega]
      have c6 : wr.cell? ⟨gr, 6, none⟩ = some (.int .u8 (R : Int)) := by have := cell_of_row _ _ 6 _ _ _ HS.out.b0; rw [← HLIT.out] at this; exact this
      go_wp2_with fail
      clear c6
      go_loopw [61] (fun i wr => ∃ j : Nat, (j : Int) ≤ (R : Int) - 1 ∧ i = .int .i64 (j : Nat) ∧ FSt w wr gr gm ga gb rx (bK a1 a2 R r.ev j) a1 a2) (fun i _ => R - (intOf i).toNat)
      case atStart => exact ⟨0, by omega, rfl, HS.out⟩
      case round =>
        obtain ⟨j, hj, rfl, hS⟩ := hrel
        clear HS
        have HS := Lib.hid hS
        clear hS
        by_cases hlt2 : (j : Int) < (R : Int) - 1
        · have hbm := HS.out.bm
          have hbb := HS.out.bb
          go_wp2_with (first | (refine wpList_load_row rfl 121 _ rfl _ rfl _ _ _ _ hbm Try.underlying121 rfl (by exact size_mn _) ?_; (try go_simp)) | (refine wpList_load_row rfl 124 _ rfl _ rfl _ _ _ _ hbb Try.underlying124 rfl (by exact size_pcs _) ?_; (try go_simp)))
          go_at_call 57
          refine (mStep1 (bK a1 a2 R r.ev j) (bK a1 a2 R r.ev (j + 1)) (psAt 2 a2) a2 _ (HBK.out j (by omega)) HP2.out (by rw [bK_r]; rfl) (by rw [bK_r]; rfl) (bK_step HNE.out (by omega)) [] (ch1_same (by rw [bK_st, bK_st]))).mono ?_
          rintro e w' ⟨z, rfl, ho, hb⟩
          obtain ⟨za, zc, rfl⟩ := cho_len ho
          have HS2 := Lib.hid (HS.out.step hb)
          have hbm2 := HS2.out.bm
          clear ho hb HS hbm hbb
          go_wp2_with (refine wpList_store_row rfl 121 _ _ rfl _ (Mn.cs _) rfl rfl 121 _ hbm2 (size_mn _) (by simp only [Mn.size]) (Mn.one _) ?_; (try go_simp))
          have HS := Lib.hid (HS2.out.put (bK a1 a2 R r.ev (j + 1)))
          clear HS2 hbm2
          go_roundw
          case rel => exact ⟨j + 1, by omega, by go_num, HS.out⟩
          case measure => simp [intOf]; omega
        · have hjR : (j : Int) + 1 = R := by omega
          have HJR := Lib.hid hjR
          clear hjR
          have hbm := HS.out.bm
          have hba := HS.out.ba
          go_wp2_with (first | (refine wpList_load_row rfl 121 _ rfl _ rfl _ _ _ _ hbm Try.underlying121 rfl (by exact size_mn _) ?_; (try go_simp)) | (refine wpList_load_row rfl 124 _ rfl _ rfl _ _ _ _ hba Try.underlying124 rfl (by exact size_pcs _) ?_; (try go_simp)))
          go_at_call 57
          obtain ⟨X, hX⟩ : ∃ X, (bK a1 a2 R r.ev j).step a1 = X := ⟨_, rfl⟩
          have HX := Lib.hid (show X.st = 1 ∧ X.r.en = true by rw [← hX]; exact ⟨bK_good HNE.out (by omega) j HJR.out, show (bK a1 a2 R r.ev j).r.en = true by rw [bK_r]; rfl⟩)
          refine (mStep1 (bK a1 a2 R r.ev j) X (psAt 2 a1) a1 _ (HBK.out j (by omega)) HP1.out (by rw [bK_r]; rfl) (by rw [bK_r]; rfl) hX [] (ch1_same (by rw [bK_st, HX.out.1]))).mono ?_
          rintro e w2 ⟨z, rfl, ho, hb⟩
          obtain ⟨za, zc, rfl⟩ := cho_len ho
          have HS2 := Lib.hid (HS.out.step hb)
          clear ho hb HS hbm hba hX
          go_upto_region 24 with (refine wpList_store_row rfl 121 _ _ rfl _ (Mn.cs _) rfl rfl 121 _ (heap_alloc_new w2 (.cells (Mn.empty 0).cs 121)) (size_mn _) (by simp only [Mn.size]) (Mn.one _) ?_; rw [World.setRow_alloc_new]; (try go_simp))
          have HP := Lib.hid (MnB.new w2 (M1 X))
          have HS3 := Lib.hid (HS2.out.step ((Below.refl w2.heap.size w2).alloc (Nat.le_refl _) (.cells (M1 X).cs 121)))
          have HGN := Lib.hid (show w.heap.size ≤ w2.heap.size ∧ w2.heap.size ≠ gm ∧ w2.heap.size ≠ ga ∧ w2.heap.size ≠ gb ∧ w2.heap.size ≠ gr from ⟨HS2.out.be.size, Nat.ne_of_gt (box_lt HS2.out.bm), Nat.ne_of_gt (box_lt HS2.out.ba), Nat.ne_of_gt (box_lt HS2.out.bb), Nat.ne_of_gt (box_lt HS2.out.b0)⟩)
          obtain ⟨gn, hgn⟩ : ∃ g, g = w2.heap.size := ⟨_, rfl⟩
          obtain ⟨w3, hw3⟩ : ∃ w3, w3 = w2.alloc (.cells (M1 X).cs 121) := ⟨_, rfl⟩
          rw [← hw3, ← hgn] at HP
          rw [← hw3] at HS3
          rw [← hgn] at HGN
          rw [← hw3, ← hgn]
          clear hw3 hgn HS2
          have hp := HP.out
          go_wp2_with (refine wpLoadWm (by (first | exact Go.Mix.wanted_none rfl | exact Go.Mix.wanted_tt rfl rfl rfl | exact Go.Mix.wanted_ff rfl rfl rfl)) 121 _ rfl _ rfl _ _ _ _ hp Try.underlying121 rfl (size_mn _) ?_; (try go_simp))
          go_at_call 58
          refine (mStatus (M1 X) 0 1 _ (show 1 ≤ 16 by decide) (show X.st = 1 from HX.out.1)).mono ?_
          rintro e w4 ⟨rfl, hb⟩
          have HP4 := Lib.hid (HP.out.below hb (Nat.le_refl _))
          have HS4 := Lib.hid (HS3.out.step hb)
          clear hb hp HP HS3
          have hp := HP4.out
          go_wp2_with (refine wpLoadWm (by (first | exact Go.Mix.wanted_none rfl | exact Go.Mix.wanted_tt rfl rfl rfl | exact Go.Mix.wanted_ff rfl rfl rfl)) 121 _ rfl _ rfl _ _ _ _ hp Try.underlying121 rfl (size_mn _) ?_; (try go_simp))
          go_at_call 59
          refine (mViolated (M1 X) _ (show 1 ≤ 16 by decide)).mono ?_
          rintro e w5 ⟨z, rfl, ho, hb⟩
          rw [show (M1 X).vios (M1 X).n = [] from vios1_no (by rw [HX.out.1]; rfl)] at ho
          obtain ⟨ya, yc, rfl⟩ := own_formC ho
          have HP5 := Lib.hid (HP4.out.below hb (Nat.le_refl _))
          have HS5 := Lib.hid (HS4.out.step hb)
          clear hb hp HP4 HS4 ho
          have hbm := HS5.out.bm
          have hbb := HS5.out.bb
          rw [show ([] : List Nat).length = 0 from rfl]
          go_wp2_with (first | (refine wpList_load_row rfl 121 _ rfl _ rfl _ _ _ _ hbm Try.underlying121 rfl (by exact size_mn _) ?_; (try go_simp)) | (refine wpList_load_row rfl 124 _ rfl _ rfl _ _ _ _ hbb Try.underlying124 rfl (by exact size_pcs _) ?_; (try go_simp)))
          go_at_call 57
          refine (mStep1 (bK a1 a2 R r.ev j) (zK a1 a2 R r.ev) (psAt 2 a2) a2 _ (HBK.out j (by omega)) HP2.out (by rw [bK_r]; rfl) (by rw [bK_r]; rfl) (bK_bad HNE.out (by omega) j HJR.out) [⟨0, 1, badS a1 a2, a2⟩] (by
            have h23 := badS_23 a1 a2
            unfold ch1
            rw [bK_st, show (zK a1 a2 R r.ev).st = badS a1 a2 from rfl, if_pos (show badS a1 a2 ≠ 1 by omega)])).mono ?_
          rintro e w6 ⟨z, rfl, ho, hb⟩
          obtain ⟨xa, xc, rfl⟩ := cho_len ho
          have HP6 := Lib.hid (HP5.out.below hb (Nat.le_refl _))
          have HS6 := Lib.hid (HS5.out.step hb)
          have HO6 := Lib.hid (ho.row (f := gn) (by have := box_lt HP5.out; omega) (M1 (zK a1 a2 R r.ev)).cs)
          clear hb hbm hbb HP5 HS5 ho
          have hp := HP6.out
          rw [show ([⟨0, 1, badS a1 a2, a2⟩] : List Cg).length = 1 from rfl] at HO6 ⊢
          go_upto_region 27 with (refine wpList_store_row rfl 121 _ _ rfl _ (Mn.cs _) rfl rfl 121 _ hp (size_mn _) (by simp only [Mn.size]) (Mn.one _) ?_; (try go_simp))
          have HP7 := Lib.hid (show MnB (w6.setRow gn (M1 (zK a1 a2 R r.ev)).cs) gn (M1 (zK a1 a2 R r.ev)) from setRow_heap _ _ _ _ _ _ HP6.out)
          have HS7 := Lib.hid (HS6.out.other HGN.out.1 HGN.out.2.1 HGN.out.2.2.1 HGN.out.2.2.2.1 HGN.out.2.2.2.2 (M1 (zK a1 a2 R r.ev)).cs)
          obtain ⟨w7, hw7⟩ : ∃ w7, w7 = w6.setRow gn (M1 (zK a1 a2 R r.ev)).cs := ⟨_, rfl⟩
          rw [← hw7] at HP7 HS7 HO6 ⊢
          obtain ⟨gz, rfl, hgz, hgzl, hcz⟩ := cho_cells HO6.out (show 0 < ([⟨0, 1, badS a1 a2, a2⟩] : List Cg).length from Nat.zero_lt_one)
          have d1 : w7.cell? ⟨gz, 1, none⟩ = some (.int .u8 1) := hcz 1 _ rfl
          have d2 : w7.cell? ⟨gz, 2, none⟩ = some (.int .u8 (badS a1 a2)) := hcz 2 _ rfl
          have d3 : w7.cell? ⟨gz, 3, none⟩ = some (.int .i32 a2) := hcz 3 _ rfl
          clear hw7 hp HP6 HS6 HO6 hcz hgz
          have hv : vio (badS a1 a2) = true := by
            rcases badS_23 a1 a2 with e | e <;> rw [e] <;> rfl
          obtain ⟨B, hB⟩ : ∃ B, B = badS a1 a2 := ⟨_, rfl⟩
          rw [← hB] at d2 hv
          have HV := Lib.hid (And.intro hv hB)
          clear hv hB
          go_wp2_with fail
          go_at_call 48
          refine (Vio_at B true _ HV.out.1).mono ?_
          rintro e w' ⟨rfl, rfl⟩
          have hp := HP7.out
          go_wp2_with (refine wpLoadWm (by (first | exact Go.Mix.wanted_none rfl | exact Go.Mix.wanted_tt rfl rfl rfl | exact Go.Mix.wanted_ff rfl rfl rfl)) 121 _ rfl _ rfl _ _ _ _ hp Try.underlying121 rfl (size_mn _) ?_; (try go_simp))
          go_at_call 59
          refine (mViolated (M1 (zK a1 a2 R r.ev)) _ (show 1 ≤ 16 by decide)).mono ?_
          rintro e w8 ⟨z, rfl, ho, hb⟩
          rw [show (M1 (zK a1 a2 R r.ev)).vios (M1 (zK a1 a2 R r.ev)).n = [0] from vios1_yes (show vio (badS a1 a2) = true by rw [← HV.out.2]; exact HV.out.1) rfl] at ho
          obtain ⟨ya, yc, rfl⟩ := own_formC ho
          have HP8 := Lib.hid (HP7.out.below hb (Nat.le_refl _))
          have HS8 := Lib.hid (HS7.out.step hb)
          clear hb hp HP7 HS7 ho d1 d2 d3
          have hp := HP8.out
          have hbb := HS8.out.bb
          rw [show ([0] : List Nat).length = 1 from rfl]
          go_wp2_with (first | (refine wpList_load_row rfl 121 _ rfl _ rfl _ _ _ _ hp Try.underlying121 rfl (by exact size_mn _) ?_; (try go_simp)) | (refine wpList_load_row rfl 124 _ rfl _ rfl _ _ _ _ hbb Try.underlying124 rfl (by exact size_pcs _) ?_; (try go_simp)))
          go_at_call 57
          refine (mStep1 (zK a1 a2 R r.ev) (zK a1 a2 R r.ev) (psAt 2 a2) a2 _ HZK.out HP2.out rfl rfl (zK_step HNE.out (by omega)) [] (ch1_same rfl)).mono ?_
          rintro e w9 ⟨z, rfl, ho, hb⟩
          obtain ⟨ta, tc, rfl⟩ := cho_len ho
          have HBE := Lib.hid (HS8.out.step hb).be
          clear hb hp hbb HP8 HS8 ho
          rw [show ([] : List Cg).length = 0 from rfl]
          go_wp2
          go_ret
          exact ⟨rfl, HBE.out⟩
end Go.Proofs.Ytbomkneajmgckaa
