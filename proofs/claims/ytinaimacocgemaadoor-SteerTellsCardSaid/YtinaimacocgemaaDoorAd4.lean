/- The sum of four vectors in memory. -/
import Derived.Test.YtinaimacocgemaaDoorLaw02
import Derived.Test.YtinaimacocgemaaDoorAdds
namespace Go.Proofs.YtinaimacocgemaaDoor
open Go.RowKit
set_option linter.unusedVariables false
set_option linter.unusedSimpArgs false
theorem Add4_at (x y z u : Int) (n : Nat) (w : World) (h0 : w.cell? ⟨n, 0, none⟩ = some (.int .i32 x)) (h1 : w.cell? ⟨n, 1, none⟩ = some (.int .i32 y)) (h2 : w.cell? ⟨n, 2, none⟩ = some (.int .i32 z)) (h3 : w.cell? ⟨n, 3, none⟩ = some (.int .i32 u)) (hx : -2147483648 ≤ x ∧ x ≤ 2147483647) (hy : -2147483648 ≤ y ∧ y ≤ 2147483647) (hz : -2147483648 ≤ z ∧ z ≤ 2147483647) (hu : -2147483648 ≤ u ∧ u ≤ 2147483647) :
    Calls Tryd.prog 42 #[.slice (some ⟨n, 0, none⟩) 4 4] w fun e w' => e = .returned (.int .i32 (Fx.sat (x + y + z + u))) ∧ w = w' := by
  refine (Add_any n 0 4 4 [x, y, z, u] _ rfl (by decide) ?_ ?_).mono ?_
  · intro v hv; simp at hv; omega
  · intro j hj
    have hj : j < 4 := hj
    have : j = 0 ∨ j = 1 ∨ j = 2 ∨ j = 3 := by omega
    rcases this with rfl | rfl | rfl | rfl <;> assumption
  · rintro e w' ⟨rfl, rfl⟩
    exact ⟨ret_int (by simp [Fx.sum]), rfl⟩
structure Twelve (w : World) (b : Nat) (x0 x1 x2 y0 y1 y2 z0 z1 z2 u0 u1 u2 : Int) : Prop where
  c0 : w.cell? ⟨b, 0, none⟩ = some (.int .i32 x0)
  c1 : w.cell? ⟨b, 1, none⟩ = some (.int .i32 x1)
  c2 : w.cell? ⟨b, 2, none⟩ = some (.int .i32 x2)
  c3 : w.cell? ⟨b, 3, none⟩ = some (.int .i32 y0)
  c4 : w.cell? ⟨b, 4, none⟩ = some (.int .i32 y1)
  c5 : w.cell? ⟨b, 5, none⟩ = some (.int .i32 y2)
  c6 : w.cell? ⟨b, 6, none⟩ = some (.int .i32 z0)
  c7 : w.cell? ⟨b, 7, none⟩ = some (.int .i32 z1)
  c8 : w.cell? ⟨b, 8, none⟩ = some (.int .i32 z2)
  c9 : w.cell? ⟨b, 9, none⟩ = some (.int .i32 u0)
  c10 : w.cell? ⟨b, 10, none⟩ = some (.int .i32 u1)
  c11 : w.cell? ⟨b, 11, none⟩ = some (.int .i32 u2)

@[go_sem] theorem mk4 (w : World) : (Instr.makeSlice 68 (.int .i64 0) (.int .i64 4)).run Tryd.prog w = .ok (.slice (some ⟨w.heap.size, 0, none⟩) 0 4) (w.alloc (.cells #[.int .i32 0, .int .i32 0, .int .i32 0, .int .i32 0] 21)) := by kernel_rfl
set_option maxHeartbeats 4000000 in
theorem Column4 (i : Int) (b : Nat) (x0 x1 x2 y0 y1 y2 z0 z1 z2 u0 u1 u2 : Int) (w : World) (hi : i = 0 ∨ i = 1 ∨ i = 2) (h : Twelve w b x0 x1 x2 y0 y1 y2 z0 z1 z2 u0 u1 u2) :
    Calls Tryd.prog 43 #[.slice (some ⟨b, 0, none⟩) 4 4, .int .i64 i] w fun e w' => (∃ n, e = .returned (.slice (some ⟨n, 0, none⟩) 4 4) ∧ w.heap.size ≤ n ∧ n < w'.heap.size ∧ w'.cell? ⟨n, 0, none⟩ = some (.int .i32 (pick i x0 x1 x2)) ∧ w'.cell? ⟨n, 1, none⟩ = some (.int .i32 (pick i y0 y1 y2)) ∧ w'.cell? ⟨n, 2, none⟩ = some (.int .i32 (pick i z0 z1 z2)) ∧ w'.cell? ⟨n, 3, none⟩ = some (.int .i32 (pick i u0 u1 u2))) ∧ Below w.heap.size w w' := by
  obtain ⟨c0, c1, c2, c3, c4, c5, c6, c7, c8, c9, c10, c11⟩ := h
  have lb := World.block_lt_of_cell? w _ c0
  rcases hi with rfl | rfl | rfl
  all_goals
    simp only [pick]
    go_enter Tryd.func43, Tryd.ntmps43
    go_wp2
    refine wp_loop_rounds 5 ?_
    rw [rounds_succ]
    go_wp2_with fail
    have l1 : b < w.heap.size + 1 := by omega
    have l2 : b < w.heap.size + 1 + 1 := by omega
    have l3 : b < w.heap.size + 1 + 1 + 1 := by omega
    have l4 : b < w.heap.size + 1 + 1 + 1 + 1 := by omega
    have l5 : b < w.heap.size + 1 + 1 + 1 + 1 + 1 := by omega
    have l6 : b < w.heap.size + 1 + 1 + 1 + 1 + 1 + 1 := by omega
    have l7 : b < w.heap.size + 1 + 1 + 1 + 1 + 1 + 1 + 1 := by omega
    have l8 : b < w.heap.size + 1 + 1 + 1 + 1 + 1 + 1 + 1 + 1 := by omega
    have n0 : b ≠ w.heap.size := by omega
    have n1 : b ≠ w.heap.size + 1 := by omega
    have n2 : b ≠ w.heap.size + 1 + 1 := by omega
    have n3 : b ≠ w.heap.size + 1 + 1 + 1 := by omega
    have n4 : b ≠ w.heap.size + 1 + 1 + 1 + 1 := by omega
    have n5 : b ≠ w.heap.size + 1 + 1 + 1 + 1 + 1 := by omega
    have n6 : b ≠ w.heap.size + 1 + 1 + 1 + 1 + 1 + 1 := by omega
    rw [rounds_succ]
    go_wp2
    rw [rounds_succ]
    go_wp2
    rw [rounds_succ]
    go_wp2
    rw [rounds_succ]
    go_wp2
    go_ret
    exact ⟨⟨_, rfl, by go_size, by go_size, by go_simp, by go_simp, by go_simp, by go_simp⟩, by repeat' (first | (with_reducible exact Below.refl _ _) | (with_reducible assumption) | (with_reducible refine Below.setCell ?_ ?_ _) | (with_reducible refine Below.alloc ?_ ?_ _) | (with_reducible refine Below.drew ?_) | (with_reducible refine Below.drawsN ?_ _) | go_size)⟩

theorem Twelve.below {w w' : World} {b B : Nat} {x0 x1 x2 y0 y1 y2 z0 z1 z2 u0 u1 u2 : Int} (h : Twelve w b x0 x1 x2 y0 y1 y2 z0 z1 z2 u0 u1 u2) (hb : Below B w w') (hlt : b < B) : Twelve w' b x0 x1 x2 y0 y1 y2 z0 z1 z2 u0 u1 u2 :=
  ⟨(hb.cell (p := ⟨b, 0, none⟩) hlt).trans h.c0, (hb.cell (p := ⟨b, 1, none⟩) hlt).trans h.c1, (hb.cell (p := ⟨b, 2, none⟩) hlt).trans h.c2, (hb.cell (p := ⟨b, 3, none⟩) hlt).trans h.c3, (hb.cell (p := ⟨b, 4, none⟩) hlt).trans h.c4, (hb.cell (p := ⟨b, 5, none⟩) hlt).trans h.c5, (hb.cell (p := ⟨b, 6, none⟩) hlt).trans h.c6, (hb.cell (p := ⟨b, 7, none⟩) hlt).trans h.c7, (hb.cell (p := ⟨b, 8, none⟩) hlt).trans h.c8, (hb.cell (p := ⟨b, 9, none⟩) hlt).trans h.c9, (hb.cell (p := ⟨b, 10, none⟩) hlt).trans h.c10, (hb.cell (p := ⟨b, 11, none⟩) hlt).trans h.c11⟩
set_option maxHeartbeats 1000000 in
theorem AddC4 (i : Int) (b bl : Nat) (x0 x1 x2 y0 y1 y2 z0 z1 z2 u0 u1 u2 : Int) (w : World) (hi : i = 0 ∨ i = 1 ∨ i = 2) (h : Twelve w b x0 x1 x2 y0 y1 y2 z0 z1 z2 u0 u1 u2) (hl : w.cell? ⟨bl, 0, none⟩ = some (.slice (some ⟨b, 0, none⟩) 4 4)) (x0lo : -2147483648 ≤ x0) (x0hi : x0 ≤ 2147483647) (x1lo : -2147483648 ≤ x1) (x1hi : x1 ≤ 2147483647) (x2lo : -2147483648 ≤ x2) (x2hi : x2 ≤ 2147483647) (y0lo : -2147483648 ≤ y0) (y0hi : y0 ≤ 2147483647) (y1lo : -2147483648 ≤ y1) (y1hi : y1 ≤ 2147483647) (y2lo : -2147483648 ≤ y2) (y2hi : y2 ≤ 2147483647) (z0lo : -2147483648 ≤ z0) (z0hi : z0 ≤ 2147483647) (z1lo : -2147483648 ≤ z1) (z1hi : z1 ≤ 2147483647) (z2lo : -2147483648 ≤ z2) (z2hi : z2 ≤ 2147483647) (u0lo : -2147483648 ≤ u0) (u0hi : u0 ≤ 2147483647) (u1lo : -2147483648 ≤ u1) (u1hi : u1 ≤ 2147483647) (u2lo : -2147483648 ≤ u2) (u2hi : u2 ≤ 2147483647) :
    Calls Tryd.prog 41 #[.int .i64 i, .pointer (some ⟨bl, 0, none⟩)] w fun e w' => e = .returned (.int .i32 (Fx.sat (pick i x0 x1 x2 + pick i y0 y1 y2 + pick i z0 z1 z2 + pick i u0 u1 u2))) ∧ Below w.heap.size w w' := by
  have hx : -2147483648 ≤ pick i x0 x1 x2 ∧ pick i x0 x1 x2 ≤ 2147483647 := by rcases hi with rfl | rfl | rfl <;> simp only [pick] <;> omega
  have hy : -2147483648 ≤ pick i y0 y1 y2 ∧ pick i y0 y1 y2 ≤ 2147483647 := by rcases hi with rfl | rfl | rfl <;> simp only [pick] <;> omega
  have hz : -2147483648 ≤ pick i z0 z1 z2 ∧ pick i z0 z1 z2 ≤ 2147483647 := by rcases hi with rfl | rfl | rfl <;> simp only [pick] <;> omega
  have hu : -2147483648 ≤ pick i u0 u1 u2 ∧ pick i u0 u1 u2 ≤ 2147483647 := by rcases hi with rfl | rfl | rfl <;> simp only [pick] <;> omega
  go_enter Tryd.func41, Tryd.ntmps41
  go_wp2_with fail
  go_at_call 43
  refine (Column4 i b x0 x1 x2 y0 y1 y2 z0 z1 z2 u0 u1 u2 _ hi h).mono ?_
  rintro e w1 ⟨⟨n, rfl, hn, hn2, d0, d1, d2, d3⟩, hb⟩
  go_wp2_with fail
  go_at_call 42
  refine (Add4_at _ _ _ _ n _ d0 d1 d2 d3 hx hy hz hu).mono ?_
  rintro e w2 ⟨rfl, rfl⟩
  go_wp2
  go_ret
  exact ⟨rfl, hb⟩

set_option maxHeartbeats 1000000 in
theorem vAdd4_at (b : Nat) (x0 x1 x2 y0 y1 y2 z0 z1 z2 u0 u1 u2 : Int) (w : World) (hS : Twelve w b x0 x1 x2 y0 y1 y2 z0 z1 z2 u0 u1 u2) (x0lo : -2147483648 ≤ x0) (x0hi : x0 ≤ 2147483647) (x1lo : -2147483648 ≤ x1) (x1hi : x1 ≤ 2147483647) (x2lo : -2147483648 ≤ x2) (x2hi : x2 ≤ 2147483647) (y0lo : -2147483648 ≤ y0) (y0hi : y0 ≤ 2147483647) (y1lo : -2147483648 ≤ y1) (y1hi : y1 ≤ 2147483647) (y2lo : -2147483648 ≤ y2) (y2hi : y2 ≤ 2147483647) (z0lo : -2147483648 ≤ z0) (z0hi : z0 ≤ 2147483647) (z1lo : -2147483648 ≤ z1) (z1hi : z1 ≤ 2147483647) (z2lo : -2147483648 ≤ z2) (z2hi : z2 ≤ 2147483647) (u0lo : -2147483648 ≤ u0) (u0hi : u0 ≤ 2147483647) (u1lo : -2147483648 ≤ u1) (u1hi : u1 ≤ 2147483647) (u2lo : -2147483648 ≤ u2) (u2hi : u2 ≤ 2147483647) :
    Calls Tryd.prog 27 #[.slice (some ⟨b, 0, none⟩) 4 4] w fun e w' => e = .returned (.agg #[.int .i32 (Fx.sat (x0 + y0 + z0 + u0)), .int .i32 (Fx.sat (x1 + y1 + z1 + u1)), .int .i32 (Fx.sat (x2 + y2 + z2 + u2))]) ∧ Below w.heap.size w w' := by
  have lb := World.block_lt_of_cell? w _ hS.c0
  go_enter Tryd.func27, Tryd.ntmps27
  go_wp2_with (go_at_call 38; go_in)
  obtain ⟨v0, hv⟩ : ∃ v0, v0 = (((w.alloc (Obj.cells #[.slice (some ⟨b, 0, none⟩) 4 4] 54)).alloc (Obj.cells #[.int .i32 0, .int .i32 0, .int .i32 0] 23)).alloc (Obj.cells #[.int .i32 0, .int .i32 0, .int .i32 0] 22)) := ⟨_, rfl⟩
  have hb0 : Below w.heap.size w v0 := by rw [hv]; repeat' (first | (with_reducible exact Below.refl _ _) | (with_reducible assumption) | (with_reducible refine Below.setCell ?_ ?_ _) | (with_reducible refine Below.alloc ?_ ?_ _) | (with_reducible refine Below.drew ?_) | (with_reducible refine Below.drawsN ?_ _) | go_size)
  have hS := hS.below hb0 lb
  have hL : v0.cell? ⟨w.heap.size, 0, none⟩ = some (.slice (some ⟨b, 0, none⟩) 4 4) := by rw [hv]; go_simp
  have hR : Three v0 .i32 (w.heap.size + 1 + 1) 0 0 0 := by rw [hv]; exact ⟨by go_simp, by go_simp, by go_simp⟩
  have hV : Three v0 .i32 (w.heap.size + 1) 0 0 0 := by rw [hv]; exact ⟨by go_simp, by go_simp, by go_simp⟩
  have hz : w.heap.size + 3 ≤ v0.heap.size := by rw [hv]; simp
  have hf : ∀ j, v0.frozen? ⟨w.heap.size + 1 + 1, j, none⟩ = false := by intro j; rw [hv]; go_simp
  have hg : ∀ j, v0.frozen? ⟨w.heap.size + 1, j, none⟩ = false := by intro j; rw [hv]; go_simp
  rw [← hv]
  go_at_call 41
  refine (AddC4 0 b w.heap.size x0 x1 x2 y0 y1 y2 z0 z1 z2 u0 u1 u2 v0 (by decide) hS hL x0lo x0hi x1lo x1hi x2lo x2hi y0lo y0hi y1lo y1hi y2lo y2hi z0lo z0hi z1lo z1hi z2lo z2hi u0lo u0hi u1lo u1hi u2lo u2hi).mono ?_
  rintro e v1 ⟨rfl, hb⟩
  have hS := hS.below hb (by omega)
  have hL := (hb.cell (p := ⟨w.heap.size, 0, none⟩) (by simp; omega)).trans hL
  have hR := hR.below hb (by omega)
  have hV := hV.below hb (by omega)
  have hf : ∀ j, v1.frozen? ⟨w.heap.size + 1 + 1, j, none⟩ = false := fun j => (hb.frozen (by simp; omega)).trans (hf j)
  have hg : ∀ j, v1.frozen? ⟨w.heap.size + 1, j, none⟩ = false := fun j => (hb.frozen (by simp; omega)).trans (hg j)
  have hb0 := hb0.trans (hb.mono (by omega))
  have hz : w.heap.size + 3 ≤ v1.heap.size := Nat.le_trans hz hb.size
  go_wp2_with fail
  go_at_call 41
  refine (AddC4 1 b w.heap.size x0 x1 x2 y0 y1 y2 z0 z1 z2 u0 u1 u2 v1 (by decide) hS hL x0lo x0hi x1lo x1hi x2lo x2hi y0lo y0hi y1lo y1hi y2lo y2hi z0lo z0hi z1lo z1hi z2lo z2hi u0lo u0hi u1lo u1hi u2lo u2hi).mono ?_
  rintro e v2 ⟨rfl, hb⟩
  have hS := hS.below hb (by omega)
  have hL := (hb.cell (p := ⟨w.heap.size, 0, none⟩) (by simp; omega)).trans hL
  have hR := hR.below hb (by omega)
  have hV := hV.below hb (by omega)
  have hf : ∀ j, v2.frozen? ⟨w.heap.size + 1 + 1, j, none⟩ = false := fun j => (hb.frozen (by simp; omega)).trans (hf j)
  have hg : ∀ j, v2.frozen? ⟨w.heap.size + 1, j, none⟩ = false := fun j => (hb.frozen (by simp; omega)).trans (hg j)
  have hb0 := hb0.trans (hb.mono (by omega))
  have hz : w.heap.size + 3 ≤ v2.heap.size := Nat.le_trans hz hb.size
  go_wp2_with fail
  go_at_call 41
  refine (AddC4 2 b w.heap.size x0 x1 x2 y0 y1 y2 z0 z1 z2 u0 u1 u2 v2 (by decide) hS hL x0lo x0hi x1lo x1hi x2lo x2hi y0lo y0hi y1lo y1hi y2lo y2hi z0lo z0hi z1lo z1hi z2lo z2hi u0lo u0hi u1lo u1hi u2lo u2hi).mono ?_
  rintro e v3 ⟨rfl, hb⟩
  have hS := hS.below hb (by omega)
  have hL := (hb.cell (p := ⟨w.heap.size, 0, none⟩) (by simp; omega)).trans hL
  have hR := hR.below hb (by omega)
  have hV := hV.below hb (by omega)
  have hf : ∀ j, v3.frozen? ⟨w.heap.size + 1 + 1, j, none⟩ = false := fun j => (hb.frozen (by simp; omega)).trans (hf j)
  have hg : ∀ j, v3.frozen? ⟨w.heap.size + 1, j, none⟩ = false := fun j => (hb.frozen (by simp; omega)).trans (hg j)
  have hb0 := hb0.trans (hb.mono (by omega))
  have hz : w.heap.size + 3 ≤ v3.heap.size := Nat.le_trans hz hb.size
  have r0 := hR.c0
  have r1 := hR.c1
  have r2 := hR.c2
  have q0 := hV.c0
  have q1 := hV.c1
  have q2 := hV.c2
  have f0 := hf 0
  have f1 := hf 1
  have f2 := hf 2
  have g0 := hg 0
  have g1 := hg 1
  have g2 := hg 2
  simp only [pick]
  go_wp2
  refine bodyPost_ret (v := .agg #[.int .i32 (Fx.sat (x0 + y0 + z0 + u0)), .int .i32 (Fx.sat (x1 + y1 + z1 + u1)), .int .i32 (Fx.sat (x2 + y2 + z2 + u2))]) (by simp [results, Tryd.results38, go_sem, r0, r1, r2]) rfl ?_
  go_wp2
  exact bodyPost_ret (v := .agg #[.int .i32 (Fx.sat (x0 + y0 + z0 + u0)), .int .i32 (Fx.sat (x1 + y1 + z1 + u1)), .int .i32 (Fx.sat (x2 + y2 + z2 + u2))]) (by simp [results, Tryd.results27, go_sem, r0, r1, r2, q0, q1, q2]) rfl ⟨rfl, by repeat' (first | (with_reducible exact Below.refl _ _) | (with_reducible assumption) | (with_reducible refine Below.setCell ?_ ?_ _) | (with_reducible refine Below.alloc ?_ ?_ _) | (with_reducible refine Below.drew ?_) | (with_reducible refine Below.drawsN ?_ _) | go_size)⟩

end Go.Proofs.YtinaimacocgemaaDoor
