/- VecLines: Add of some vectors. -/
import Derived.Test.YtikhlhdjaladgaaLaw02p
import Derived.Test.YtikhlhdjaladgaaAdds
import Derived.Handy
namespace Go.Proofs.Ytikhlhdjaladgaa
open Go.RowKit
set_option linter.unusedVariables false
set_option linter.unusedSimpArgs false

@[go_sem] theorem mk2 (w : World) : (Instr.makeSlice 69 (.int .i64 0) (.int .i64 2)).run Try.prog w = .ok (.slice (some ⟨w.heap.size, 0, none⟩) 0 2) (w.alloc (.cells #[.int .i32 0, .int .i32 0] 21)) := by kernel_rfl
@[go_sem] theorem mk3 (w : World) : (Instr.makeSlice 69 (.int .i64 0) (.int .i64 3)).run Try.prog w = .ok (.slice (some ⟨w.heap.size, 0, none⟩) 0 3) (w.alloc (.cells #[.int .i32 0, .int .i32 0, .int .i32 0] 21)) := by kernel_rfl
set_option maxHeartbeats 1000000 in
theorem Column2 (i : Int) (b : Nat) (x0 x1 x2 y0 y1 y2 : Int) (w : World) (hi : i = 0 ∨ i = 1 ∨ i = 2) (h : Six w b x0 x1 x2 y0 y1 y2) :
    Calls Try.prog 43 #[.slice (some ⟨b, 0, none⟩) 2 2, .int .i64 i] w fun e w' => (∃ n, e = .returned (.slice (some ⟨n, 0, none⟩) 2 2) ∧ w.heap.size ≤ n ∧ n < w'.heap.size ∧ w'.cell? ⟨n, 0, none⟩ = some (.int .i32 (pick i x0 x1 x2)) ∧ w'.cell? ⟨n, 1, none⟩ = some (.int .i32 (pick i y0 y1 y2))) ∧ Below w.heap.size w w' := by
  obtain ⟨c0, c1, c2, c3, c4, c5⟩ := h
  have lb := World.block_lt_of_cell? w _ c0
  rcases hi with rfl | rfl | rfl
  all_goals
    simp only [pick]
    go_enter Try.func43, Try.ntmps43
    go_wp2
    refine wp_loop_rounds 3 ?_
    rw [rounds_succ]
    go_wp2_with fail
    have l1 : b < w.heap.size + 1 := by omega
    have l2 : b < w.heap.size + 1 + 1 := by omega
    have l3 : b < w.heap.size + 1 + 1 + 1 := by omega
    have l4 : b < w.heap.size + 1 + 1 + 1 + 1 := by omega
    have n0 : b ≠ w.heap.size := by omega
    have n1 : b ≠ w.heap.size + 1 := by omega
    have n2 : b ≠ w.heap.size + 1 + 1 := by omega
    rw [rounds_succ]
    go_wp2
    rw [rounds_succ]
    go_wp2
    go_ret
    exact ⟨⟨_, rfl, by go_size, by go_size, by go_simp, by go_simp⟩, by repeat' (first | (with_reducible exact Below.refl _ _) | (with_reducible assumption) | (with_reducible refine Below.setCell ?_ ?_ _) | (with_reducible refine Below.alloc ?_ ?_ _) | (with_reducible refine Below.drew ?_) | (with_reducible refine Below.drawsN ?_ _) | go_size)⟩

theorem Six.below {w w' : World} {b B : Nat} {x0 x1 x2 y0 y1 y2 : Int} (h : Six w b x0 x1 x2 y0 y1 y2) (hb : Below B w w') (hlt : b < B) : Six w' b x0 x1 x2 y0 y1 y2 :=
  ⟨(hb.cell (p := ⟨b, 0, none⟩) hlt).trans h.c0, (hb.cell (p := ⟨b, 1, none⟩) hlt).trans h.c1, (hb.cell (p := ⟨b, 2, none⟩) hlt).trans h.c2, (hb.cell (p := ⟨b, 3, none⟩) hlt).trans h.c3, (hb.cell (p := ⟨b, 4, none⟩) hlt).trans h.c4, (hb.cell (p := ⟨b, 5, none⟩) hlt).trans h.c5⟩

set_option maxHeartbeats 1000000 in
theorem AddC2 (i : Int) (b bl : Nat) (x0 x1 x2 y0 y1 y2 : Int) (w : World) (hi : i = 0 ∨ i = 1 ∨ i = 2) (h : Six w b x0 x1 x2 y0 y1 y2) (hl : w.cell? ⟨bl, 0, none⟩ = some (.slice (some ⟨b, 0, none⟩) 2 2)) (x0lo : -2147483648 ≤ x0) (x0hi : x0 ≤ 2147483647) (x1lo : -2147483648 ≤ x1) (x1hi : x1 ≤ 2147483647) (x2lo : -2147483648 ≤ x2) (x2hi : x2 ≤ 2147483647) (y0lo : -2147483648 ≤ y0) (y0hi : y0 ≤ 2147483647) (y1lo : -2147483648 ≤ y1) (y1hi : y1 ≤ 2147483647) (y2lo : -2147483648 ≤ y2) (y2hi : y2 ≤ 2147483647) :
    Calls Try.prog 41 #[.int .i64 i, .pointer (some ⟨bl, 0, none⟩)] w fun e w' => e = .returned (.int .i32 (Fx.sat (pick i x0 x1 x2 + pick i y0 y1 y2))) ∧ Below w.heap.size w w' := by
  have hx : -2147483648 ≤ pick i x0 x1 x2 ∧ pick i x0 x1 x2 ≤ 2147483647 := by rcases hi with rfl | rfl | rfl <;> simp only [pick] <;> omega
  have hy : -2147483648 ≤ pick i y0 y1 y2 ∧ pick i y0 y1 y2 ≤ 2147483647 := by rcases hi with rfl | rfl | rfl <;> simp only [pick] <;> omega
  go_enter Try.func41, Try.ntmps41
  go_wp2_with fail
  go_at_call 43
  refine (Column2 i b x0 x1 x2 y0 y1 y2 _ hi h).mono ?_
  rintro e w1 ⟨⟨n, rfl, hn, hn2, d0, d1⟩, hb⟩
  go_wp2_with fail
  go_at_call 42
  refine (Add2_at _ _ n _ d0 d1 hx hy).mono ?_
  rintro e w2 ⟨rfl, rfl⟩
  go_wp2
  go_ret
  exact ⟨rfl, hb⟩

set_option maxHeartbeats 1000000 in
theorem vAdd2_at (b : Nat) (x0 x1 x2 y0 y1 y2 : Int) (w : World) (hS : Six w b x0 x1 x2 y0 y1 y2) (x0lo : -2147483648 ≤ x0) (x0hi : x0 ≤ 2147483647) (x1lo : -2147483648 ≤ x1) (x1hi : x1 ≤ 2147483647) (x2lo : -2147483648 ≤ x2) (x2hi : x2 ≤ 2147483647) (y0lo : -2147483648 ≤ y0) (y0hi : y0 ≤ 2147483647) (y1lo : -2147483648 ≤ y1) (y1hi : y1 ≤ 2147483647) (y2lo : -2147483648 ≤ y2) (y2hi : y2 ≤ 2147483647) :
    Calls Try.prog 24 #[.slice (some ⟨b, 0, none⟩) 2 2] w fun e w' => e = .returned (.agg #[.int .i32 (Fx.sat (x0 + y0)), .int .i32 (Fx.sat (x1 + y1)), .int .i32 (Fx.sat (x2 + y2))]) ∧ Below w.heap.size w w' := by
  have lb := World.block_lt_of_cell? w _ hS.c0
  go_enter Try.func24, Try.ntmps24
  go_wp2_with (go_at_call 40; go_in)
  obtain ⟨v0, hv⟩ : ∃ v0, v0 = (((w.alloc (Obj.cells #[.slice (some ⟨b, 0, none⟩) 2 2] 66)).alloc (Obj.cells #[.int .i32 0, .int .i32 0, .int .i32 0] 43)).alloc (Obj.cells #[.int .i32 0, .int .i32 0, .int .i32 0] 42)) := ⟨_, rfl⟩
  have hb0 : Below w.heap.size w v0 := by rw [hv]; repeat' (first | (with_reducible exact Below.refl _ _) | (with_reducible assumption) | (with_reducible refine Below.setCell ?_ ?_ _) | (with_reducible refine Below.alloc ?_ ?_ _) | (with_reducible refine Below.drew ?_) | (with_reducible refine Below.drawsN ?_ _) | go_size)
  have hS := hS.below hb0 lb
  have hL : v0.cell? ⟨w.heap.size, 0, none⟩ = some (.slice (some ⟨b, 0, none⟩) 2 2) := by rw [hv]; go_simp
  have hR : Three v0 .i32 (w.heap.size + 1 + 1) 0 0 0 := by rw [hv]; exact ⟨by go_simp, by go_simp, by go_simp⟩
  have hV : Three v0 .i32 (w.heap.size + 1) 0 0 0 := by rw [hv]; exact ⟨by go_simp, by go_simp, by go_simp⟩
  have hz : w.heap.size + 3 ≤ v0.heap.size := by rw [hv]; simp
  have hf : ∀ j, v0.frozen? ⟨w.heap.size + 1 + 1, j, none⟩ = false := by intro j; rw [hv]; go_simp
  have hg : ∀ j, v0.frozen? ⟨w.heap.size + 1, j, none⟩ = false := by intro j; rw [hv]; go_simp
  rw [← hv]
  go_at_call 41
  refine (AddC2 0 b w.heap.size x0 x1 x2 y0 y1 y2 v0 (by decide) hS hL x0lo x0hi x1lo x1hi x2lo x2hi y0lo y0hi y1lo y1hi y2lo y2hi).mono ?_
  rintro e v1 ⟨rfl, hb⟩
  have hS := hS.below hb (by omega)
  have hL := (hb.cell (p := ⟨w.heap.size, 0, none⟩) (by simp; omega)).trans hL
  have hR := hR.below hb (by omega)
  have hV := hV.below hb (by omega)
  have hf : ∀ j, v1.frozen? ⟨w.heap.size + 1 + 1, j, none⟩ = false := fun j => (hb.frozen (by simp; omega)).trans (hf j)
  have hg : ∀ j, v1.frozen? ⟨w.heap.size + 1, j, none⟩ = false := fun j => (hb.frozen (by simp; omega)).trans (hg j)
  have hb0 := hb0.trans (hb.mono (by omega))
  have hz : w.heap.size + 3 ≤ v1.heap.size := Nat.le_trans hz hb.size
  go_wp2_with fail
  go_at_call 41
  refine (AddC2 1 b w.heap.size x0 x1 x2 y0 y1 y2 v1 (by decide) hS hL x0lo x0hi x1lo x1hi x2lo x2hi y0lo y0hi y1lo y1hi y2lo y2hi).mono ?_
  rintro e v2 ⟨rfl, hb⟩
  have hS := hS.below hb (by omega)
  have hL := (hb.cell (p := ⟨w.heap.size, 0, none⟩) (by simp; omega)).trans hL
  have hR := hR.below hb (by omega)
  have hV := hV.below hb (by omega)
  have hf : ∀ j, v2.frozen? ⟨w.heap.size + 1 + 1, j, none⟩ = false := fun j => (hb.frozen (by simp; omega)).trans (hf j)
  have hg : ∀ j, v2.frozen? ⟨w.heap.size + 1, j, none⟩ = false := fun j => (hb.frozen (by simp; omega)).trans (hg j)
  have hb0 := hb0.trans (hb.mono (by omega))
  have hz : w.heap.size + 3 ≤ v2.heap.size := Nat.le_trans hz hb.size
  go_wp2_with fail
  go_at_call 41
  refine (AddC2 2 b w.heap.size x0 x1 x2 y0 y1 y2 v2 (by decide) hS hL x0lo x0hi x1lo x1hi x2lo x2hi y0lo y0hi y1lo y1hi y2lo y2hi).mono ?_
  rintro e v3 ⟨rfl, hb⟩
  have hS := hS.below hb (by omega)
  have hL := (hb.cell (p := ⟨w.heap.size, 0, none⟩) (by simp; omega)).trans hL
  have hR := hR.below hb (by omega)
  have hV := hV.below hb (by omega)
  have hf : ∀ j, v3.frozen? ⟨w.heap.size + 1 + 1, j, none⟩ = false := fun j => (hb.frozen (by simp; omega)).trans (hf j)
  have hg : ∀ j, v3.frozen? ⟨w.heap.size + 1, j, none⟩ = false := fun j => (hb.frozen (by simp; omega)).trans (hg j)
  have hb0 := hb0.trans (hb.mono (by omega))
  have hz : w.heap.size + 3 ≤ v3.heap.size := Nat.le_trans hz hb.size
  have r0 := hR.c0
  have r1 := hR.c1
  have r2 := hR.c2
  have q0 := hV.c0
  have q1 := hV.c1
  have q2 := hV.c2
  have f0 := hf 0
  have f1 := hf 1
  have f2 := hf 2
  have g0 := hg 0
  have g1 := hg 1
  have g2 := hg 2
  simp only [pick]
  go_wp2
  refine bodyPost_ret (v := .agg #[.int .i32 (Fx.sat (x0 + y0)), .int .i32 (Fx.sat (x1 + y1)), .int .i32 (Fx.sat (x2 + y2))]) (by simp [results, Try.results40, go_sem, r0, r1, r2]) rfl ?_
  go_wp2
  exact bodyPost_ret (v := .agg #[.int .i32 (Fx.sat (x0 + y0)), .int .i32 (Fx.sat (x1 + y1)), .int .i32 (Fx.sat (x2 + y2))]) (by simp [results, Try.results24, go_sem, r0, r1, r2, q0, q1, q2]) rfl ⟨rfl, by repeat' (first | (with_reducible exact Below.refl _ _) | (with_reducible assumption) | (with_reducible refine Below.setCell ?_ ?_ _) | (with_reducible refine Below.alloc ?_ ?_ _) | (with_reducible refine Below.drew ?_) | (with_reducible refine Below.drawsN ?_ _) | go_size)⟩

structure Nine (w : World) (b : Nat) (x0 x1 x2 y0 y1 y2 z0 z1 z2 : Int) : Prop where
  c0 : w.cell? ⟨b, 0, none⟩ = some (.int .i32 x0)
  c1 : w.cell? ⟨b, 1, none⟩ = some (.int .i32 x1)
  c2 : w.cell? ⟨b, 2, none⟩ = some (.int .i32 x2)
  c3 : w.cell? ⟨b, 3, none⟩ = some (.int .i32 y0)
  c4 : w.cell? ⟨b, 4, none⟩ = some (.int .i32 y1)
  c5 : w.cell? ⟨b, 5, none⟩ = some (.int .i32 y2)
  c6 : w.cell? ⟨b, 6, none⟩ = some (.int .i32 z0)
  c7 : w.cell? ⟨b, 7, none⟩ = some (.int .i32 z1)
  c8 : w.cell? ⟨b, 8, none⟩ = some (.int .i32 z2)

set_option maxHeartbeats 2000000 in
theorem Column3 (i : Int) (b : Nat) (x0 x1 x2 y0 y1 y2 z0 z1 z2 : Int) (w : World) (hi : i = 0 ∨ i = 1 ∨ i = 2) (h : Nine w b x0 x1 x2 y0 y1 y2 z0 z1 z2) :
    Calls Try.prog 43 #[.slice (some ⟨b, 0, none⟩) 3 3, .int .i64 i] w fun e w' => (∃ n, e = .returned (.slice (some ⟨n, 0, none⟩) 3 3) ∧ w.heap.size ≤ n ∧ n < w'.heap.size ∧ w'.cell? ⟨n, 0, none⟩ = some (.int .i32 (pick i x0 x1 x2)) ∧ w'.cell? ⟨n, 1, none⟩ = some (.int .i32 (pick i y0 y1 y2)) ∧ w'.cell? ⟨n, 2, none⟩ = some (.int .i32 (pick i z0 z1 z2))) ∧ Below w.heap.size w w' := by
  obtain ⟨c0, c1, c2, c3, c4, c5, c6, c7, c8⟩ := h
  have lb := World.block_lt_of_cell? w _ c0
  rcases hi with rfl | rfl | rfl
  all_goals
    simp only [pick]
    go_enter Try.func43, Try.ntmps43
    go_wp2
    refine wp_loop_rounds 4 ?_
    rw [rounds_succ]
    go_wp2_with fail
    have l1 : b < w.heap.size + 1 := by omega
    have l2 : b < w.heap.size + 1 + 1 := by omega
    have l3 : b < w.heap.size + 1 + 1 + 1 := by omega
    have l4 : b < w.heap.size + 1 + 1 + 1 + 1 := by omega
    have l5 : b < w.heap.size + 1 + 1 + 1 + 1 + 1 := by omega
    have l6 : b < w.heap.size + 1 + 1 + 1 + 1 + 1 + 1 := by omega
    have n0 : b ≠ w.heap.size := by omega
    have n1 : b ≠ w.heap.size + 1 := by omega
    have n2 : b ≠ w.heap.size + 1 + 1 := by omega
    have n3 : b ≠ w.heap.size + 1 + 1 + 1 := by omega
    have n4 : b ≠ w.heap.size + 1 + 1 + 1 + 1 := by omega
    rw [rounds_succ]
    go_wp2
    rw [rounds_succ]
    go_wp2
    rw [rounds_succ]
    go_wp2
    go_ret
    exact ⟨⟨_, rfl, by go_size, by go_size, by go_simp, by go_simp, by go_simp⟩, by repeat' (first | (with_reducible exact Below.refl _ _) | (with_reducible assumption) | (with_reducible refine Below.setCell ?_ ?_ _) | (with_reducible refine Below.alloc ?_ ?_ _) | (with_reducible refine Below.drew ?_) | (with_reducible refine Below.drawsN ?_ _) | go_size)⟩

theorem Nine.below {w w' : World} {b B : Nat} {x0 x1 x2 y0 y1 y2 z0 z1 z2 : Int} (h : Nine w b x0 x1 x2 y0 y1 y2 z0 z1 z2) (hb : Below B w w') (hlt : b < B) : Nine w' b x0 x1 x2 y0 y1 y2 z0 z1 z2 :=
  ⟨(hb.cell (p := ⟨b, 0, none⟩) hlt).trans h.c0, (hb.cell (p := ⟨b, 1, none⟩) hlt).trans h.c1, (hb.cell (p := ⟨b, 2, none⟩) hlt).trans h.c2, (hb.cell (p := ⟨b, 3, none⟩) hlt).trans h.c3, (hb.cell (p := ⟨b, 4, none⟩) hlt).trans h.c4, (hb.cell (p := ⟨b, 5, none⟩) hlt).trans h.c5, (hb.cell (p := ⟨b, 6, none⟩) hlt).trans h.c6, (hb.cell (p := ⟨b, 7, none⟩) hlt).trans h.c7, (hb.cell (p := ⟨b, 8, none⟩) hlt).trans h.c8⟩
set_option maxHeartbeats 1000000 in
theorem AddC3 (i : Int) (b bl : Nat) (x0 x1 x2 y0 y1 y2 z0 z1 z2 : Int) (w : World) (hi : i = 0 ∨ i = 1 ∨ i = 2) (h : Nine w b x0 x1 x2 y0 y1 y2 z0 z1 z2) (hl : w.cell? ⟨bl, 0, none⟩ = some (.slice (some ⟨b, 0, none⟩) 3 3)) (x0lo : -2147483648 ≤ x0) (x0hi : x0 ≤ 2147483647) (x1lo : -2147483648 ≤ x1) (x1hi : x1 ≤ 2147483647) (x2lo : -2147483648 ≤ x2) (x2hi : x2 ≤ 2147483647) (y0lo : -2147483648 ≤ y0) (y0hi : y0 ≤ 2147483647) (y1lo : -2147483648 ≤ y1) (y1hi : y1 ≤ 2147483647) (y2lo : -2147483648 ≤ y2) (y2hi : y2 ≤ 2147483647) (z0lo : -2147483648 ≤ z0) (z0hi : z0 ≤ 2147483647) (z1lo : -2147483648 ≤ z1) (z1hi : z1 ≤ 2147483647) (z2lo : -2147483648 ≤ z2) (z2hi : z2 ≤ 2147483647) :
    Calls Try.prog 41 #[.int .i64 i, .pointer (some ⟨bl, 0, none⟩)] w fun e w' => e = .returned (.int .i32 (Fx.sat (pick i x0 x1 x2 + pick i y0 y1 y2 + pick i z0 z1 z2))) ∧ Below w.heap.size w w' := by
  have hx : -2147483648 ≤ pick i x0 x1 x2 ∧ pick i x0 x1 x2 ≤ 2147483647 := by rcases hi with rfl | rfl | rfl <;> simp only [pick] <;> omega
  have hy : -2147483648 ≤ pick i y0 y1 y2 ∧ pick i y0 y1 y2 ≤ 2147483647 := by rcases hi with rfl | rfl | rfl <;> simp only [pick] <;> omega
  have hz : -2147483648 ≤ pick i z0 z1 z2 ∧ pick i z0 z1 z2 ≤ 2147483647 := by rcases hi with rfl | rfl | rfl <;> simp only [pick] <;> omega
  go_enter Try.func41, Try.ntmps41
  go_wp2_with fail
  go_at_call 43
  refine (Column3 i b x0 x1 x2 y0 y1 y2 z0 z1 z2 _ hi h).mono ?_
  rintro e w1 ⟨⟨n, rfl, hn, hn2, d0, d1, d2⟩, hb⟩
  go_wp2_with fail
  go_at_call 42
  refine (Add3_at _ _ _ n _ d0 d1 d2 hx hy hz).mono ?_
  rintro e w2 ⟨rfl, rfl⟩
  go_wp2
  go_ret
  exact ⟨rfl, hb⟩

set_option maxHeartbeats 1000000 in
theorem vAdd3_at (b : Nat) (x0 x1 x2 y0 y1 y2 z0 z1 z2 : Int) (w : World) (hS : Nine w b x0 x1 x2 y0 y1 y2 z0 z1 z2) (x0lo : -2147483648 ≤ x0) (x0hi : x0 ≤ 2147483647) (x1lo : -2147483648 ≤ x1) (x1hi : x1 ≤ 2147483647) (x2lo : -2147483648 ≤ x2) (x2hi : x2 ≤ 2147483647) (y0lo : -2147483648 ≤ y0) (y0hi : y0 ≤ 2147483647) (y1lo : -2147483648 ≤ y1) (y1hi : y1 ≤ 2147483647) (y2lo : -2147483648 ≤ y2) (y2hi : y2 ≤ 2147483647) (z0lo : -2147483648 ≤ z0) (z0hi : z0 ≤ 2147483647) (z1lo : -2147483648 ≤ z1) (z1hi : z1 ≤ 2147483647) (z2lo : -2147483648 ≤ z2) (z2hi : z2 ≤ 2147483647) :
    Calls Try.prog 24 #[.slice (some ⟨b, 0, none⟩) 3 3] w fun e w' => e = .returned (.agg #[.int .i32 (Fx.sat (x0 + y0 + z0)), .int .i32 (Fx.sat (x1 + y1 + z1)), .int .i32 (Fx.sat (x2 + y2 + z2))]) ∧ Below w.heap.size w w' := by
  have lb := World.block_lt_of_cell? w _ hS.c0
  go_enter Try.func24, Try.ntmps24
  go_wp2_with (go_at_call 40; go_in)
  obtain ⟨v0, hv⟩ : ∃ v0, v0 = (((w.alloc (Obj.cells #[.slice (some ⟨b, 0, none⟩) 3 3] 66)).alloc (Obj.cells #[.int .i32 0, .int .i32 0, .int .i32 0] 43)).alloc (Obj.cells #[.int .i32 0, .int .i32 0, .int .i32 0] 42)) := ⟨_, rfl⟩
  have hb0 : Below w.heap.size w v0 := by rw [hv]; repeat' (first | (with_reducible exact Below.refl _ _) | (with_reducible assumption) | (with_reducible refine Below.setCell ?_ ?_ _) | (with_reducible refine Below.alloc ?_ ?_ _) | (with_reducible refine Below.drew ?_) | (with_reducible refine Below.drawsN ?_ _) | go_size)
  have hS := hS.below hb0 lb
  have hL : v0.cell? ⟨w.heap.size, 0, none⟩ = some (.slice (some ⟨b, 0, none⟩) 3 3) := by rw [hv]; go_simp
  have hR : Three v0 .i32 (w.heap.size + 1 + 1) 0 0 0 := by rw [hv]; exact ⟨by go_simp, by go_simp, by go_simp⟩
  have hV : Three v0 .i32 (w.heap.size + 1) 0 0 0 := by rw [hv]; exact ⟨by go_simp, by go_simp, by go_simp⟩
  have hz : w.heap.size + 3 ≤ v0.heap.size := by rw [hv]; simp
  have hf : ∀ j, v0.frozen? ⟨w.heap.size + 1 + 1, j, none⟩ = false := by intro j; rw [hv]; go_simp
  have hg : ∀ j, v0.frozen? ⟨w.heap.size + 1, j, none⟩ = false := by intro j; rw [hv]; go_simp
  rw [← hv]
  go_at_call 41
  refine (AddC3 0 b w.heap.size x0 x1 x2 y0 y1 y2 z0 z1 z2 v0 (by decide) hS hL x0lo x0hi x1lo x1hi x2lo x2hi y0lo y0hi y1lo y1hi y2lo y2hi z0lo z0hi z1lo z1hi z2lo z2hi).mono ?_
  rintro e v1 ⟨rfl, hb⟩
  have hS := hS.below hb (by omega)
  have hL := (hb.cell (p := ⟨w.heap.size, 0, none⟩) (by simp; omega)).trans hL
  have hR := hR.below hb (by omega)
  have hV := hV.below hb (by omega)
  have hf : ∀ j, v1.frozen? ⟨w.heap.size + 1 + 1, j, none⟩ = false := fun j => (hb.frozen (by simp; omega)).trans (hf j)
  have hg : ∀ j, v1.frozen? ⟨w.heap.size + 1, j, none⟩ = false := fun j => (hb.frozen (by simp; omega)).trans (hg j)
  have hb0 := hb0.trans (hb.mono (by omega))
  have hz : w.heap.size + 3 ≤ v1.heap.size := Nat.le_trans hz hb.size
  go_wp2_with fail
  go_at_call 41
  refine (AddC3 1 b w.heap.size x0 x1 x2 y0 y1 y2 z0 z1 z2 v1 (by decide) hS hL x0lo x0hi x1lo x1hi x2lo x2hi y0lo y0hi y1lo y1hi y2lo y2hi z0lo z0hi z1lo z1hi z2lo z2hi).mono ?_
  rintro e v2 ⟨rfl, hb⟩
  have hS := hS.below hb (by omega)
  have hL := (hb.cell (p := ⟨w.heap.size, 0, none⟩) (by simp; omega)).trans hL
  have hR := hR.below hb (by omega)
  have hV := hV.below hb (by omega)
  have hf : ∀ j, v2.frozen? ⟨w.heap.size + 1 + 1, j, none⟩ = false := fun j => (hb.frozen (by simp; omega)).trans (hf j)
  have hg : ∀ j, v2.frozen? ⟨w.heap.size + 1, j, none⟩ = false := fun j => (hb.frozen (by simp; omega)).trans (hg j)
  have hb0 := hb0.trans (hb.mono (by omega))
  have hz : w.heap.size + 3 ≤ v2.heap.size := Nat.le_trans hz hb.size
  go_wp2_with fail
  go_at_call 41
  refine (AddC3 2 b w.heap.size x0 x1 x2 y0 y1 y2 z0 z1 z2 v2 (by decide) hS hL x0lo x0hi x1lo x1hi x2lo x2hi y0lo y0hi y1lo y1hi y2lo y2hi z0lo z0hi z1lo z1hi z2lo z2hi).mono ?_
  rintro e v3 ⟨rfl, hb⟩
  have hS := hS.below hb (by omega)
  have hL := (hb.cell (p := ⟨w.heap.size, 0, none⟩) (by simp; omega)).trans hL
  have hR := hR.below hb (by omega)
  have hV := hV.below hb (by omega)
  have hf : ∀ j, v3.frozen? ⟨w.heap.size + 1 + 1, j, none⟩ = false := fun j => (hb.frozen (by simp; omega)).trans (hf j)
  have hg : ∀ j, v3.frozen? ⟨w.heap.size + 1, j, none⟩ = false := fun j => (hb.frozen (by simp; omega)).trans (hg j)
  have hb0 := hb0.trans (hb.mono (by omega))
  have hz : w.heap.size + 3 ≤ v3.heap.size := Nat.le_trans hz hb.size
  have r0 := hR.c0
  have r1 := hR.c1
  have r2 := hR.c2
  have q0 := hV.c0
  have q1 := hV.c1
  have q2 := hV.c2
  have f0 := hf 0
  have f1 := hf 1
  have f2 := hf 2
  have g0 := hg 0
  have g1 := hg 1
  have g2 := hg 2
  simp only [pick]
  go_wp2
  refine bodyPost_ret (v := .agg #[.int .i32 (Fx.sat (x0 + y0 + z0)), .int .i32 (Fx.sat (x1 + y1 + z1)), .int .i32 (Fx.sat (x2 + y2 + z2))]) (by simp [results, Try.results40, go_sem, r0, r1, r2]) rfl ?_
  go_wp2
  exact bodyPost_ret (v := .agg #[.int .i32 (Fx.sat (x0 + y0 + z0)), .int .i32 (Fx.sat (x1 + y1 + z1)), .int .i32 (Fx.sat (x2 + y2 + z2))]) (by simp [results, Try.results24, go_sem, r0, r1, r2, q0, q1, q2]) rfl ⟨rfl, by repeat' (first | (with_reducible exact Below.refl _ _) | (with_reducible assumption) | (with_reducible refine Below.setCell ?_ ?_ _) | (with_reducible refine Below.alloc ?_ ?_ _) | (with_reducible refine Below.drew ?_) | (with_reducible refine Below.drawsN ?_ _) | go_size)⟩

@[go_sem] theorem mk0 (w : World) : (Instr.makeSlice 69 (.int .i64 0) (.int .i64 0)).run Try.prog w = .ok (.slice (some ⟨w.heap.size, 0, none⟩) 0 0) (w.alloc (.cells #[] 21)) := by kernel_rfl
set_option maxHeartbeats 1000000 in
theorem Column0 (i : Int) (w : World) :
    Calls Try.prog 43 #[.slice none 0 0, .int .i64 i] w fun e w' => e = .returned (.slice (some ⟨w.heap.size, 0, none⟩) 0 0) ∧ w.alloc (.cells #[] 21) = w' := by
  go_enter Try.func43, Try.ntmps43
  go_wp2
  refine wp_loop_rounds 1 ?_
  rw [rounds_succ]
  go_wp2
  go_ret
  exact ⟨rfl, rfl⟩
set_option maxHeartbeats 1000000 in
theorem AddC0 (i : Int) (bl : Nat) (w : World) (hl : w.cell? ⟨bl, 0, none⟩ = some (.slice none 0 0)) :
    Calls Try.prog 41 #[.int .i64 i, .pointer (some ⟨bl, 0, none⟩)] w fun e w' => e = .returned (.int .i32 0) ∧ Below w.heap.size w w' := by
  have hs : Fx.sat (Fx.sum []) = 0 := by decide
  go_enter Try.func41, Try.ntmps41
  go_wp2_with fail
  go_at_call 43
  refine (Column0 i _).mono ?_
  rintro e w1 ⟨rfl, rfl⟩
  go_wp2_with fail
  go_at_call 42
  refine (Add_any w.heap.size 0 0 0 [] _ rfl (by decide) (by simp) (by simp)).mono ?_
  rintro e w2 ⟨rfl, rfl⟩
  rw [hs]
  go_wp2
  go_ret
  exact ⟨rfl, by repeat' (first | (with_reducible exact Below.refl _ _) | (with_reducible assumption) | (with_reducible refine Below.setCell ?_ ?_ _) | (with_reducible refine Below.alloc ?_ ?_ _) | (with_reducible refine Below.drew ?_) | (with_reducible refine Below.drawsN ?_ _) | go_size)⟩
set_option maxHeartbeats 1000000 in
theorem vAdd0_at (w : World) :
    Calls Try.prog 24 #[.slice none 0 0] w fun e w' => e = .returned (.agg #[.int .i32 (0), .int .i32 (0), .int .i32 (0)]) ∧ Below w.heap.size w w' := by
  go_enter Try.func24, Try.ntmps24
  go_wp2_with (go_at_call 40; go_in)
  obtain ⟨v0, hv⟩ : ∃ v0, v0 = (((w.alloc (Obj.cells #[.slice none 0 0] 66)).alloc (Obj.cells #[.int .i32 0, .int .i32 0, .int .i32 0] 43)).alloc (Obj.cells #[.int .i32 0, .int .i32 0, .int .i32 0] 42)) := ⟨_, rfl⟩
  have hb0 : Below w.heap.size w v0 := by rw [hv]; repeat' (first | (with_reducible exact Below.refl _ _) | (with_reducible assumption) | (with_reducible refine Below.setCell ?_ ?_ _) | (with_reducible refine Below.alloc ?_ ?_ _) | (with_reducible refine Below.drew ?_) | (with_reducible refine Below.drawsN ?_ _) | go_size)
  have hL : v0.cell? ⟨w.heap.size, 0, none⟩ = some (.slice none 0 0) := by rw [hv]; go_simp
  have hR : Three v0 .i32 (w.heap.size + 1 + 1) 0 0 0 := by rw [hv]; exact ⟨by go_simp, by go_simp, by go_simp⟩
  have hV : Three v0 .i32 (w.heap.size + 1) 0 0 0 := by rw [hv]; exact ⟨by go_simp, by go_simp, by go_simp⟩
  have hz : w.heap.size + 3 ≤ v0.heap.size := by rw [hv]; simp
  have hf : ∀ j, v0.frozen? ⟨w.heap.size + 1 + 1, j, none⟩ = false := by intro j; rw [hv]; go_simp
  have hg : ∀ j, v0.frozen? ⟨w.heap.size + 1, j, none⟩ = false := by intro j; rw [hv]; go_simp
  rw [← hv]
  go_at_call 41
  refine (AddC0 0 w.heap.size v0 hL).mono ?_
  rintro e v1 ⟨rfl, hb⟩
  have hL := (hb.cell (p := ⟨w.heap.size, 0, none⟩) (by simp; omega)).trans hL
  have hR := hR.below hb (by omega)
  have hV := hV.below hb (by omega)
  have hf : ∀ j, v1.frozen? ⟨w.heap.size + 1 + 1, j, none⟩ = false := fun j => (hb.frozen (by simp; omega)).trans (hf j)
  have hg : ∀ j, v1.frozen? ⟨w.heap.size + 1, j, none⟩ = false := fun j => (hb.frozen (by simp; omega)).trans (hg j)
  have hb0 := hb0.trans (hb.mono (by omega))
  have hz : w.heap.size + 3 ≤ v1.heap.size := Nat.le_trans hz hb.size
  go_wp2_with fail
  go_at_call 41
  refine (AddC0 1 w.heap.size v1 hL).mono ?_
  rintro e v2 ⟨rfl, hb⟩
  have hL := (hb.cell (p := ⟨w.heap.size, 0, none⟩) (by simp; omega)).trans hL
  have hR := hR.below hb (by omega)
  have hV := hV.below hb (by omega)
  have hf : ∀ j, v2.frozen? ⟨w.heap.size + 1 + 1, j, none⟩ = false := fun j => (hb.frozen (by simp; omega)).trans (hf j)
  have hg : ∀ j, v2.frozen? ⟨w.heap.size + 1, j, none⟩ = false := fun j => (hb.frozen (by simp; omega)).trans (hg j)
  have hb0 := hb0.trans (hb.mono (by omega))
  have hz : w.heap.size + 3 ≤ v2.heap.size := Nat.le_trans hz hb.size
  go_wp2_with fail
  go_at_call 41
  refine (AddC0 2 w.heap.size v2 hL).mono ?_
  rintro e v3 ⟨rfl, hb⟩
  have hL := (hb.cell (p := ⟨w.heap.size, 0, none⟩) (by simp; omega)).trans hL
  have hR := hR.below hb (by omega)
  have hV := hV.below hb (by omega)
  have hf : ∀ j, v3.frozen? ⟨w.heap.size + 1 + 1, j, none⟩ = false := fun j => (hb.frozen (by simp; omega)).trans (hf j)
  have hg : ∀ j, v3.frozen? ⟨w.heap.size + 1, j, none⟩ = false := fun j => (hb.frozen (by simp; omega)).trans (hg j)
  have hb0 := hb0.trans (hb.mono (by omega))
  have hz : w.heap.size + 3 ≤ v3.heap.size := Nat.le_trans hz hb.size
  have r0 := hR.c0
  have r1 := hR.c1
  have r2 := hR.c2
  have q0 := hV.c0
  have q1 := hV.c1
  have q2 := hV.c2
  have f0 := hf 0
  have f1 := hf 1
  have f2 := hf 2
  have g0 := hg 0
  have g1 := hg 1
  have g2 := hg 2
  go_wp2
  refine bodyPost_ret (v := .agg #[.int .i32 (0), .int .i32 (0), .int .i32 (0)]) (by simp [results, Try.results40, go_sem, r0, r1, r2]) rfl ?_
  go_wp2
  exact bodyPost_ret (v := .agg #[.int .i32 (0), .int .i32 (0), .int .i32 (0)]) (by simp [results, Try.results24, go_sem, r0, r1, r2, q0, q1, q2]) rfl ⟨rfl, by repeat' (first | (with_reducible exact Below.refl _ _) | (with_reducible assumption) | (with_reducible refine Below.setCell ?_ ?_ _) | (with_reducible refine Below.alloc ?_ ?_ _) | (with_reducible refine Below.drew ?_) | (with_reducible refine Below.drawsN ?_ _) | go_size)⟩
end Go.Proofs.Ytikhlhdjaladgaa
