/- Layer 23, over the wheels' axes: what commands make together. -/
import Derived.Test.YtinaimacocgemaaDoorSd
import Derived.Test.YtinaimacocgemaaDoorAd4
namespace Go.Proofs.YtinaimacocgemaaDoor
open Go.RowKit Go.Own Bs
set_option linter.unusedVariables false
set_option linter.unusedSimpArgs false
@[go_sem] theorem qix0 (w : World) (a b c d : Int) : (Instr.index 27 (.agg #[.int .i32 a, .int .i32 b, .int .i32 c, .int .i32 d]) (.int .i64 0)).run Tryd.prog w = .ok (.int .i32 a) w := by kernel_rfl
@[go_sem] theorem qix1 (w : World) (a b c d : Int) : (Instr.index 27 (.agg #[.int .i32 a, .int .i32 b, .int .i32 c, .int .i32 d]) (.int .i64 1)).run Tryd.prog w = .ok (.int .i32 b) w := by kernel_rfl
@[go_sem] theorem qix2 (w : World) (a b c d : Int) : (Instr.index 27 (.agg #[.int .i32 a, .int .i32 b, .int .i32 c, .int .i32 d]) (.int .i64 2)).run Tryd.prog w = .ok (.int .i32 c) w := by kernel_rfl
@[go_sem] theorem qix3 (w : World) (a b c d : Int) : (Instr.index 27 (.agg #[.int .i32 a, .int .i32 b, .int .i32 c, .int .i32 d]) (.int .i64 3)).run Tryd.prog w = .ok (.int .i32 d) w := by kernel_rfl
/-- What one command makes. -/
def mkF (c : Nat → Int) (k j : Nat) : Int := Fx.sat (wa k j * c k / Fx.pw 0)
def jnF (c : Nat → Int) (j : Nat) : Int := Fx.sat (mkF c 0 j + mkF c 1 j + mkF c 2 j + mkF c 3 j)
def pzF (c : Nat → Int) (n k j : Nat) : Int := if k < n then mkF c k j else 0
theorem in3_mk (c : Nat → Int) (k : Nat) : In3 (mkF c k) := in3_sat (fun _ => rfl)
def In4 (c : Nat → Int) : Prop := ∀ k, k < 4 → -2147483648 ≤ c k ∧ c k ≤ 2147483647
theorem WAx.set {w : World} (h : WAx w) {g : Nat} (hg : g ≠ 0) (k : Nat) (v : Value) : WAx (w.setCell ⟨g, k, none⟩ v) :=
  ⟨by simpa using h.lt, fun i hi j hj => (World.cell?_setCell_other _ _ _ _ (by intro e; cases e; exact hg rfl)).trans (h.c i hi j hj)⟩
set_option maxRecDepth 100000 in
set_option maxHeartbeats 4000000 in
theorem Joined_any (c : Nat → Int) (w : World) (hc : In4 c) (hG : WAx w) :
    Calls Tryd.prog 10 #[.agg #[.int .i32 (c 0), .int .i32 (c 1), .int .i32 (c 2), .int .i32 (c 3)]] w fun e w' => e = .returned (.agg #[.int .i32 (jnF c 0), .int .i32 (jnF c 1), .int .i32 (jnF c 2)]) ∧ Below w.heap.size w w' := by
  have hz := zero_vcS
  have hz2 : ∀ w, (zeroValue 46).run Tryd.prog w = .ok (.agg #[.int .i32 0, .int .i32 0, .int .i32 0, .int .i32 0, .int .i32 0, .int .i32 0, .int .i32 0, .int .i32 0, .int .i32 0, .int .i32 0, .int .i32 0, .int .i32 0]) w := fun w => by kernel_rfl
  have hq := (((Bq.nil w).new #[.int .i32 (c 0), .int .i32 (c 1), .int .i32 (c 2), .int .i32 (c 3)] 27).new #[.int .i32 0, .int .i32 0, .int .i32 0] 23).new #[.int .i32 0, .int .i32 0, .int .i32 0, .int .i32 0, .int .i32 0, .int .i32 0, .int .i32 0, .int .i32 0, .int .i32 0, .int .i32 0, .int .i32 0, .int .i32 0] 46
  have hG1 := hG.below (show Below w.heap.size w (((w.alloc (.cells #[.int .i32 (c 0), .int .i32 (c 1), .int .i32 (c 2), .int .i32 (c 3)] 27)).alloc (.cells #[.int .i32 0, .int .i32 0, .int .i32 0] 23)).alloc (.cells #[.int .i32 0, .int .i32 0, .int .i32 0, .int .i32 0, .int .i32 0, .int .i32 0, .int .i32 0, .int .i32 0, .int .i32 0, .int .i32 0, .int .i32 0, .int .i32 0] 46)) by repeat' (first | (with_reducible exact Below.refl _ _) | (with_reducible assumption) | (with_reducible refine Below.setCell ?_ ?_ _) | (with_reducible refine Below.alloc ?_ ?_ _) | (with_reducible refine Below.drew ?_) | (with_reducible refine Below.drawsN ?_ _) | go_size)) hG.lt
  have HC := Lib.hid hc
  have hw0 := hG.lt
  clear hc hG
  go_enter Tryd.func10, Tryd.ntmps10
  go_upto_region 2 with fail
  obtain ⟨w1, hw1⟩ : ∃ w1, w1 = ((w.alloc (.cells #[.int .i32 (c 0), .int .i32 (c 1), .int .i32 (c 2), .int .i32 (c 3)] 27)).alloc (.cells #[.int .i32 0, .int .i32 0, .int .i32 0] 23)).alloc (.cells #[.int .i32 0, .int .i32 0, .int .i32 0, .int .i32 0, .int .i32 0, .int .i32 0, .int .i32 0, .int .i32 0, .int .i32 0, .int .i32 0, .int .i32 0, .int .i32 0] 46) := ⟨_, rfl⟩
  rw [← hw1] at hq hG1 ⊢
  have HG := Lib.hid hG1
  simp only [World.size_alloc] at hq
  obtain ⟨g3, hg3⟩ : ∃ g, g = w.heap.size + 1 + 1 := ⟨_, rfl⟩
  obtain ⟨g2, hg2⟩ : ∃ g, g = w.heap.size + 1 := ⟨_, rfl⟩
  rw [← hg3, ← hg2] at hq
  rw [← hg3, ← hg2]
  obtain ⟨g1, hg1⟩ : ∃ g, g = w.heap.size := ⟨_, rfl⟩
  rw [← hg1] at hq
  rw [show (Value.pointer (some ⟨w.heap.size, 0, none⟩)) = .pointer (some ⟨g1, 0, none⟩) by rw [hg1]]
  have HV := Lib.hid (show Bq w w1 [(g1, #[.int .i32 (c 0), .int .i32 (c 1), .int .i32 (c 2), .int .i32 (c 3)], 27), (g2, #[.int .i32 0, .int .i32 0, .int .i32 0], 23), (g3, #[.int .i32 (pzF c 0 0 0), .int .i32 (pzF c 0 0 1), .int .i32 (pzF c 0 0 2), .int .i32 (pzF c 0 1 0), .int .i32 (pzF c 0 1 1), .int .i32 (pzF c 0 1 2), .int .i32 (pzF c 0 2 0), .int .i32 (pzF c 0 2 1), .int .i32 (pzF c 0 2 2), .int .i32 (pzF c 0 3 0), .int .i32 (pzF c 0 3 1), .int .i32 (pzF c 0 3 2)], 46)] from hq)
  have b1 := HV.out.of 0 rfl
  clear hq hw1 hg3 hg2 hg1 hG1
  go_wp2_with ((with_reducible show wpList _ _ _ (_ :: _) _ _); refine wpList_load_row rfl 27 _ rfl _ rfl _ _ _ _ b1 Tryd.underlying27 rfl (by exact size_qc) ?_; (try go_simp))
  clear b1
  refine wp_loop_rounds 5 ?_
  have b3 := HV.out.of 2 rfl
  have k0 : _ = some (Value.int .i32 (wa 0 0)) := HG.out.c 0 (by decide) 0 (by decide)
  have k1 : _ = some (Value.int .i32 (wa 0 1)) := HG.out.c 0 (by decide) 1 (by decide)
  have k2 : _ = some (Value.int .i32 (wa 0 2)) := HG.out.c 0 (by decide) 2 (by decide)
  simp only [Nat.reduceMul, Nat.reduceAdd, Nat.zero_add, Nat.zero_mul] at k0 k1 k2
  have hS := fun w => vScaleF (wa 0) (c 0) 0 w (fun j hj => by have := wa_bd 0 j (by decide) hj; omega) (HC.out 0 (by decide)).1 (HC.out 0 (by decide)).2
  have HSC := Lib.hid hS
  clear b3 hS
  rw [rounds_succ]
  go_upto_region 5 with fail
  go_wp2_with fail
  go_at_call 26
  refine (HSC.out _).mono ?_
  rintro e w2 ⟨rfl, hb⟩
  have HV2 := Lib.hid (HV.out.step hb)
  have HG2 := Lib.hid (HG.out.below hb HG.out.lt)
  clear hb HV HG HSC k0 k1 k2
  have b3 := HV2.out.of 2 rfl
  have c0 := cell_of_row _ _ (0 * 3) _ _ _ b3
  have c1 := cell_of_row _ _ (0 * 3 + 1) _ _ _ b3
  have c2 := cell_of_row _ _ (0 * 3 + 2) _ _ _ b3
  have f0 := frozen_of_row _ _ (0 * 3) _ _ b3
  have f1 := frozen_of_row _ _ (0 * 3 + 1) _ _ b3
  have f2 := frozen_of_row _ _ (0 * 3 + 2) _ _ b3
  simp only [Nat.reduceMul, Nat.reduceAdd, Nat.zero_add, Nat.zero_mul] at c0 c1 c2 f0 f1 f2
  have hv := ((HV2.out.set 2 rfl (0 * 3) (.int .i32 (scaleF (wa 0) (c 0) 0 0))).set 2 rfl (0 * 3 + 1) (.int .i32 (scaleF (wa 0) (c 0) 0 1))).set 2 rfl (0 * 3 + 2) (.int .i32 (scaleF (wa 0) (c 0) 0 2))
  have hg0 : g3 ≠ 0 := by have := HV2.out.low 2 rfl; have := hw0; omega
  have hg := ((HG2.out.set hg0 (0 * 3) (.int .i32 (scaleF (wa 0) (c 0) 0 0))).set hg0 (0 * 3 + 1) (.int .i32 (scaleF (wa 0) (c 0) 0 1))).set hg0 (0 * 3 + 2) (.int .i32 (scaleF (wa 0) (c 0) 0 2))
  have HV3 := Lib.hid (show Bq w _ [(g1, #[.int .i32 (c 0), .int .i32 (c 1), .int .i32 (c 2), .int .i32 (c 3)], 27), (g2, #[.int .i32 0, .int .i32 0, .int .i32 0], 23), (g3, #[.int .i32 (pzF c (0 + 1) 0 0), .int .i32 (pzF c (0 + 1) 0 1), .int .i32 (pzF c (0 + 1) 0 2), .int .i32 (pzF c (0 + 1) 1 0), .int .i32 (pzF c (0 + 1) 1 1), .int .i32 (pzF c (0 + 1) 1 2), .int .i32 (pzF c (0 + 1) 2 0), .int .i32 (pzF c (0 + 1) 2 1), .int .i32 (pzF c (0 + 1) 2 2), .int .i32 (pzF c (0 + 1) 3 0), .int .i32 (pzF c (0 + 1) 3 1), .int .i32 (pzF c (0 + 1) 3 2)], 46)] from hv)
  have HG3 := Lib.hid hg
  clear b3 hv hg hg0 HV2 HG2
  go_upto_region 6 with fail
  have hV : Bq w (((w2.setCell ⟨g3, 0, none⟩ (.int .i32 (scaleF (wa 0) (c 0) 0 0))).setCell ⟨g3, 1, none⟩ (.int .i32 (scaleF (wa 0) (c 0) 0 1))).setCell ⟨g3, 2, none⟩ (.int .i32 (scaleF (wa 0) (c 0) 0 2))) _ := HV3.out
  have hG : WAx (((w2.setCell ⟨g3, 0, none⟩ (.int .i32 (scaleF (wa 0) (c 0) 0 0))).setCell ⟨g3, 1, none⟩ (.int .i32 (scaleF (wa 0) (c 0) 0 1))).setCell ⟨g3, 2, none⟩ (.int .i32 (scaleF (wa 0) (c 0) 0 2))) := HG3.out
  obtain ⟨w1, hw1⟩ : ∃ w1, w1 = ((w2.setCell ⟨g3, 0, none⟩ (.int .i32 (scaleF (wa 0) (c 0) 0 0))).setCell ⟨g3, 1, none⟩ (.int .i32 (scaleF (wa 0) (c 0) 0 1))).setCell ⟨g3, 2, none⟩ (.int .i32 (scaleF (wa 0) (c 0) 0 2)) := ⟨_, rfl⟩
  rw [← hw1] at hV hG ⊢
  have HV := Lib.hid hV
  have HG := Lib.hid hG
  clear hw1 hV hG HV3 HG3 c0 c1 c2 f0 f1 f2
  go_wp2_with fail
  have b3 := HV.out.of 2 rfl
  have k0 : _ = some (Value.int .i32 (wa 1 0)) := HG.out.c 1 (by decide) 0 (by decide)
  have k1 : _ = some (Value.int .i32 (wa 1 1)) := HG.out.c 1 (by decide) 1 (by decide)
  have k2 : _ = some (Value.int .i32 (wa 1 2)) := HG.out.c 1 (by decide) 2 (by decide)
  simp only [Nat.reduceMul, Nat.reduceAdd, Nat.zero_add, Nat.zero_mul] at k0 k1 k2
  have hS := fun w => vScaleF (wa 1) (c 1) 0 w (fun j hj => by have := wa_bd 1 j (by decide) hj; omega) (HC.out 1 (by decide)).1 (HC.out 1 (by decide)).2
  have HSC := Lib.hid hS
  clear b3 hS
  rw [rounds_succ]
  go_upto_region 5 with fail
  go_wp2_with fail
  go_at_call 26
  refine (HSC.out _).mono ?_
  rintro e w2 ⟨rfl, hb⟩
  have HV2 := Lib.hid (HV.out.step hb)
  have HG2 := Lib.hid (HG.out.below hb HG.out.lt)
  clear hb HV HG HSC k0 k1 k2
  have b3 := HV2.out.of 2 rfl
  have c0 := cell_of_row _ _ (1 * 3) _ _ _ b3
  have c1 := cell_of_row _ _ (1 * 3 + 1) _ _ _ b3
  have c2 := cell_of_row _ _ (1 * 3 + 2) _ _ _ b3
  have f0 := frozen_of_row _ _ (1 * 3) _ _ b3
  have f1 := frozen_of_row _ _ (1 * 3 + 1) _ _ b3
  have f2 := frozen_of_row _ _ (1 * 3 + 2) _ _ b3
  simp only [Nat.reduceMul, Nat.reduceAdd, Nat.zero_add, Nat.zero_mul] at c0 c1 c2 f0 f1 f2
  have hv := ((HV2.out.set 2 rfl (1 * 3) (.int .i32 (scaleF (wa 1) (c 1) 0 0))).set 2 rfl (1 * 3 + 1) (.int .i32 (scaleF (wa 1) (c 1) 0 1))).set 2 rfl (1 * 3 + 2) (.int .i32 (scaleF (wa 1) (c 1) 0 2))
  have hg0 : g3 ≠ 0 := by have := HV2.out.low 2 rfl; have := hw0; omega
  have hg := ((HG2.out.set hg0 (1 * 3) (.int .i32 (scaleF (wa 1) (c 1) 0 0))).set hg0 (1 * 3 + 1) (.int .i32 (scaleF (wa 1) (c 1) 0 1))).set hg0 (1 * 3 + 2) (.int .i32 (scaleF (wa 1) (c 1) 0 2))
  have HV3 := Lib.hid (show Bq w _ [(g1, #[.int .i32 (c 0), .int .i32 (c 1), .int .i32 (c 2), .int .i32 (c 3)], 27), (g2, #[.int .i32 0, .int .i32 0, .int .i32 0], 23), (g3, #[.int .i32 (pzF c (1 + 1) 0 0), .int .i32 (pzF c (1 + 1) 0 1), .int .i32 (pzF c (1 + 1) 0 2), .int .i32 (pzF c (1 + 1) 1 0), .int .i32 (pzF c (1 + 1) 1 1), .int .i32 (pzF c (1 + 1) 1 2), .int .i32 (pzF c (1 + 1) 2 0), .int .i32 (pzF c (1 + 1) 2 1), .int .i32 (pzF c (1 + 1) 2 2), .int .i32 (pzF c (1 + 1) 3 0), .int .i32 (pzF c (1 + 1) 3 1), .int .i32 (pzF c (1 + 1) 3 2)], 46)] from hv)
  have HG3 := Lib.hid hg
  clear b3 hv hg hg0 HV2 HG2
  go_upto_region 6 with fail
  have hV : Bq w (((w2.setCell ⟨g3, 3, none⟩ (.int .i32 (scaleF (wa 1) (c 1) 0 0))).setCell ⟨g3, 4, none⟩ (.int .i32 (scaleF (wa 1) (c 1) 0 1))).setCell ⟨g3, 5, none⟩ (.int .i32 (scaleF (wa 1) (c 1) 0 2))) _ := HV3.out
  have hG : WAx (((w2.setCell ⟨g3, 3, none⟩ (.int .i32 (scaleF (wa 1) (c 1) 0 0))).setCell ⟨g3, 4, none⟩ (.int .i32 (scaleF (wa 1) (c 1) 0 1))).setCell ⟨g3, 5, none⟩ (.int .i32 (scaleF (wa 1) (c 1) 0 2))) := HG3.out
  obtain ⟨w1, hw1⟩ : ∃ w1, w1 = ((w2.setCell ⟨g3, 3, none⟩ (.int .i32 (scaleF (wa 1) (c 1) 0 0))).setCell ⟨g3, 4, none⟩ (.int .i32 (scaleF (wa 1) (c 1) 0 1))).setCell ⟨g3, 5, none⟩ (.int .i32 (scaleF (wa 1) (c 1) 0 2)) := ⟨_, rfl⟩
  rw [← hw1] at hV hG ⊢
  have HV := Lib.hid hV
  have HG := Lib.hid hG
  clear hw1 hV hG HV3 HG3 c0 c1 c2 f0 f1 f2
  go_wp2_with fail
  have b3 := HV.out.of 2 rfl
  have k0 : _ = some (Value.int .i32 (wa 2 0)) := HG.out.c 2 (by decide) 0 (by decide)
  have k1 : _ = some (Value.int .i32 (wa 2 1)) := HG.out.c 2 (by decide) 1 (by decide)
  have k2 : _ = some (Value.int .i32 (wa 2 2)) := HG.out.c 2 (by decide) 2 (by decide)
  simp only [Nat.reduceMul, Nat.reduceAdd, Nat.zero_add, Nat.zero_mul] at k0 k1 k2
  have hS := fun w => vScaleF (wa 2) (c 2) 0 w (fun j hj => by have := wa_bd 2 j (by decide) hj; omega) (HC.out 2 (by decide)).1 (HC.out 2 (by decide)).2
  have HSC := Lib.hid hS
  clear b3 hS
  rw [rounds_succ]
  go_upto_region 5 with fail
  go_wp2_with fail
  go_at_call 26
  refine (HSC.out _).mono ?_
  rintro e w2 ⟨rfl, hb⟩
  have HV2 := Lib.hid (HV.out.step hb)
  have HG2 := Lib.hid (HG.out.below hb HG.out.lt)
  clear hb HV HG HSC k0 k1 k2
  have b3 := HV2.out.of 2 rfl
  have c0 := cell_of_row _ _ (2 * 3) _ _ _ b3
  have c1 := cell_of_row _ _ (2 * 3 + 1) _ _ _ b3
  have c2 := cell_of_row _ _ (2 * 3 + 2) _ _ _ b3
  have f0 := frozen_of_row _ _ (2 * 3) _ _ b3
  have f1 := frozen_of_row _ _ (2 * 3 + 1) _ _ b3
  have f2 := frozen_of_row _ _ (2 * 3 + 2) _ _ b3
  simp only [Nat.reduceMul, Nat.reduceAdd, Nat.zero_add, Nat.zero_mul] at c0 c1 c2 f0 f1 f2
  have hv := ((HV2.out.set 2 rfl (2 * 3) (.int .i32 (scaleF (wa 2) (c 2) 0 0))).set 2 rfl (2 * 3 + 1) (.int .i32 (scaleF (wa 2) (c 2) 0 1))).set 2 rfl (2 * 3 + 2) (.int .i32 (scaleF (wa 2) (c 2) 0 2))
  have hg0 : g3 ≠ 0 := by have := HV2.out.low 2 rfl; have := hw0; omega
  have hg := ((HG2.out.set hg0 (2 * 3) (.int .i32 (scaleF (wa 2) (c 2) 0 0))).set hg0 (2 * 3 + 1) (.int .i32 (scaleF (wa 2) (c 2) 0 1))).set hg0 (2 * 3 + 2) (.int .i32 (scaleF (wa 2) (c 2) 0 2))
  have HV3 := Lib.hid (show Bq w _ [(g1, #[.int .i32 (c 0), .int .i32 (c 1), .int .i32 (c 2), .int .i32 (c 3)], 27), (g2, #[.int .i32 0, .int .i32 0, .int .i32 0], 23), (g3, #[.int .i32 (pzF c (2 + 1) 0 0), .int .i32 (pzF c (2 + 1) 0 1), .int .i32 (pzF c (2 + 1) 0 2), .int .i32 (pzF c (2 + 1) 1 0), .int .i32 (pzF c (2 + 1) 1 1), .int .i32 (pzF c (2 + 1) 1 2), .int .i32 (pzF c (2 + 1) 2 0), .int .i32 (pzF c (2 + 1) 2 1), .int .i32 (pzF c (2 + 1) 2 2), .int .i32 (pzF c (2 + 1) 3 0), .int .i32 (pzF c (2 + 1) 3 1), .int .i32 (pzF c (2 + 1) 3 2)], 46)] from hv)
  have HG3 := Lib.hid hg
  clear b3 hv hg hg0 HV2 HG2
  go_upto_region 6 with fail
  have hV : Bq w (((w2.setCell ⟨g3, 6, none⟩ (.int .i32 (scaleF (wa 2) (c 2) 0 0))).setCell ⟨g3, 7, none⟩ (.int .i32 (scaleF (wa 2) (c 2) 0 1))).setCell ⟨g3, 8, none⟩ (.int .i32 (scaleF (wa 2) (c 2) 0 2))) _ := HV3.out
  have hG : WAx (((w2.setCell ⟨g3, 6, none⟩ (.int .i32 (scaleF (wa 2) (c 2) 0 0))).setCell ⟨g3, 7, none⟩ (.int .i32 (scaleF (wa 2) (c 2) 0 1))).setCell ⟨g3, 8, none⟩ (.int .i32 (scaleF (wa 2) (c 2) 0 2))) := HG3.out
  obtain ⟨w1, hw1⟩ : ∃ w1, w1 = ((w2.setCell ⟨g3, 6, none⟩ (.int .i32 (scaleF (wa 2) (c 2) 0 0))).setCell ⟨g3, 7, none⟩ (.int .i32 (scaleF (wa 2) (c 2) 0 1))).setCell ⟨g3, 8, none⟩ (.int .i32 (scaleF (wa 2) (c 2) 0 2)) := ⟨_, rfl⟩
  rw [← hw1] at hV hG ⊢
  have HV := Lib.hid hV
  have HG := Lib.hid hG
  clear hw1 hV hG HV3 HG3 c0 c1 c2 f0 f1 f2
  go_wp2_with fail
  have b3 := HV.out.of 2 rfl
  have k0 : _ = some (Value.int .i32 (wa 3 0)) := HG.out.c 3 (by decide) 0 (by decide)
  have k1 : _ = some (Value.int .i32 (wa 3 1)) := HG.out.c 3 (by decide) 1 (by decide)
  have k2 : _ = some (Value.int .i32 (wa 3 2)) := HG.out.c 3 (by decide) 2 (by decide)
  simp only [Nat.reduceMul, Nat.reduceAdd, Nat.zero_add, Nat.zero_mul] at k0 k1 k2
  have hS := fun w => vScaleF (wa 3) (c 3) 0 w (fun j hj => by have := wa_bd 3 j (by decide) hj; omega) (HC.out 3 (by decide)).1 (HC.out 3 (by decide)).2
  have HSC := Lib.hid hS
  clear b3 hS
  rw [rounds_succ]
  go_upto_region 5 with fail
  go_wp2_with fail
  go_at_call 26
  refine (HSC.out _).mono ?_
  rintro e w2 ⟨rfl, hb⟩
  have HV2 := Lib.hid (HV.out.step hb)
  have HG2 := Lib.hid (HG.out.below hb HG.out.lt)
  clear hb HV HG HSC k0 k1 k2
  have b3 := HV2.out.of 2 rfl
  have c0 := cell_of_row _ _ (3 * 3) _ _ _ b3
  have c1 := cell_of_row _ _ (3 * 3 + 1) _ _ _ b3
  have c2 := cell_of_row _ _ (3 * 3 + 2) _ _ _ b3
  have f0 := frozen_of_row _ _ (3 * 3) _ _ b3
  have f1 := frozen_of_row _ _ (3 * 3 + 1) _ _ b3
  have f2 := frozen_of_row _ _ (3 * 3 + 2) _ _ b3
  simp only [Nat.reduceMul, Nat.reduceAdd, Nat.zero_add, Nat.zero_mul] at c0 c1 c2 f0 f1 f2
  have hv := ((HV2.out.set 2 rfl (3 * 3) (.int .i32 (scaleF (wa 3) (c 3) 0 0))).set 2 rfl (3 * 3 + 1) (.int .i32 (scaleF (wa 3) (c 3) 0 1))).set 2 rfl (3 * 3 + 2) (.int .i32 (scaleF (wa 3) (c 3) 0 2))
  have hg0 : g3 ≠ 0 := by have := HV2.out.low 2 rfl; have := hw0; omega
  have hg := ((HG2.out.set hg0 (3 * 3) (.int .i32 (scaleF (wa 3) (c 3) 0 0))).set hg0 (3 * 3 + 1) (.int .i32 (scaleF (wa 3) (c 3) 0 1))).set hg0 (3 * 3 + 2) (.int .i32 (scaleF (wa 3) (c 3) 0 2))
  have HV3 := Lib.hid (show Bq w _ [(g1, #[.int .i32 (c 0), .int .i32 (c 1), .int .i32 (c 2), .int .i32 (c 3)], 27), (g2, #[.int .i32 0, .int .i32 0, .int .i32 0], 23), (g3, #[.int .i32 (pzF c (3 + 1) 0 0), .int .i32 (pzF c (3 + 1) 0 1), .int .i32 (pzF c (3 + 1) 0 2), .int .i32 (pzF c (3 + 1) 1 0), .int .i32 (pzF c (3 + 1) 1 1), .int .i32 (pzF c (3 + 1) 1 2), .int .i32 (pzF c (3 + 1) 2 0), .int .i32 (pzF c (3 + 1) 2 1), .int .i32 (pzF c (3 + 1) 2 2), .int .i32 (pzF c (3 + 1) 3 0), .int .i32 (pzF c (3 + 1) 3 1), .int .i32 (pzF c (3 + 1) 3 2)], 46)] from hv)
  have HG3 := Lib.hid hg
  clear b3 hv hg hg0 HV2 HG2
  go_upto_region 6 with fail
  have hV : Bq w (((w2.setCell ⟨g3, 9, none⟩ (.int .i32 (scaleF (wa 3) (c 3) 0 0))).setCell ⟨g3, 10, none⟩ (.int .i32 (scaleF (wa 3) (c 3) 0 1))).setCell ⟨g3, 11, none⟩ (.int .i32 (scaleF (wa 3) (c 3) 0 2))) _ := HV3.out
  have hG : WAx (((w2.setCell ⟨g3, 9, none⟩ (.int .i32 (scaleF (wa 3) (c 3) 0 0))).setCell ⟨g3, 10, none⟩ (.int .i32 (scaleF (wa 3) (c 3) 0 1))).setCell ⟨g3, 11, none⟩ (.int .i32 (scaleF (wa 3) (c 3) 0 2))) := HG3.out
  obtain ⟨w1, hw1⟩ : ∃ w1, w1 = ((w2.setCell ⟨g3, 9, none⟩ (.int .i32 (scaleF (wa 3) (c 3) 0 0))).setCell ⟨g3, 10, none⟩ (.int .i32 (scaleF (wa 3) (c 3) 0 1))).setCell ⟨g3, 11, none⟩ (.int .i32 (scaleF (wa 3) (c 3) 0 2)) := ⟨_, rfl⟩
  rw [← hw1] at hV hG ⊢
  have HV := Lib.hid hV
  have HG := Lib.hid hG
  clear hw1 hV hG HV3 HG3 c0 c1 c2 f0 f1 f2
  go_wp2_with fail
  rw [rounds_succ]
  have b3 := HV.out.of 2 rfl
  have hT : Twelve w1 g3 (mkF c 0 0) (mkF c 0 1) (mkF c 0 2) (mkF c 1 0) (mkF c 1 1) (mkF c 1 2) (mkF c 2 0) (mkF c 2 1) (mkF c 2 2) (mkF c 3 0) (mkF c 3 1) (mkF c 3 2) :=
    ⟨cell_of_row _ _ 0 _ _ _ b3, cell_of_row _ _ 1 _ _ _ b3, cell_of_row _ _ 2 _ _ _ b3, cell_of_row _ _ 3 _ _ _ b3, cell_of_row _ _ 4 _ _ _ b3, cell_of_row _ _ 5 _ _ _ b3, cell_of_row _ _ 6 _ _ _ b3, cell_of_row _ _ 7 _ _ _ b3, cell_of_row _ _ 8 _ _ _ b3, cell_of_row _ _ 9 _ _ _ b3, cell_of_row _ _ 10 _ _ _ b3, cell_of_row _ _ 11 _ _ _ b3⟩
  have hA := vAdd4_at g3 _ _ _ _ _ _ _ _ _ _ _ _ w1 hT (in3_mk c 0 0 (by decide)).1 (in3_mk c 0 0 (by decide)).2 (in3_mk c 0 1 (by decide)).1 (in3_mk c 0 1 (by decide)).2 (in3_mk c 0 2 (by decide)).1 (in3_mk c 0 2 (by decide)).2 (in3_mk c 1 0 (by decide)).1 (in3_mk c 1 0 (by decide)).2 (in3_mk c 1 1 (by decide)).1 (in3_mk c 1 1 (by decide)).2 (in3_mk c 1 2 (by decide)).1 (in3_mk c 1 2 (by decide)).2 (in3_mk c 2 0 (by decide)).1 (in3_mk c 2 0 (by decide)).2 (in3_mk c 2 1 (by decide)).1 (in3_mk c 2 1 (by decide)).2 (in3_mk c 2 2 (by decide)).1 (in3_mk c 2 2 (by decide)).2 (in3_mk c 3 0 (by decide)).1 (in3_mk c 3 0 (by decide)).2 (in3_mk c 3 1 (by decide)).1 (in3_mk c 3 1 (by decide)).2 (in3_mk c 3 2 (by decide)).1 (in3_mk c 3 2 (by decide)).2
  have HA := Lib.hid (show Calls Tryd.prog 27 #[.slice (some ⟨g3, 0, none⟩) 4 4] w1 fun e w' => e = .returned (.agg #[.int .i32 (jnF c 0), .int .i32 (jnF c 1), .int .i32 (jnF c 2)]) ∧ Below w1.heap.size w1 w' from hA)
  clear hT hA b3
  go_wp2_with fail
  go_at_call 27
  refine HA.out.mono ?_
  rintro e w2 ⟨rfl, hb⟩
  have hq := HV.out.step hb
  have b2 := hq.of 1 rfl
  have hq2 := hq.put 1 rfl #[.int .i32 (jnF c 0), .int .i32 (jnF c 1), .int .i32 (jnF c 2)]
  have b4 := hq2.of 1 rfl
  have HB := Lib.hid hq2.be
  have HB4 := Lib.hid b4
  clear hb hq hq2 b4 HV HG HA
  go_wp2_with ((with_reducible show wpList _ _ _ (_ :: _) _ _); refine wpList_store_row rfl 23 _ _ rfl _ _ rfl rfl _ _ b2 (by exact size_vc) (by rfl) (by simp [Value.oneCell']) ?_)
  refine bodyPost_ret (results_cell_row rfl _ _ _ _ _ _ _ rfl HB4.out Tryd.underlying23 rfl (by exact size_vc)) rfl ?_
  exact ⟨rfl, HB.out⟩
end Go.Proofs.YtinaimacocgemaaDoor
