/- Layer 24's statements: the document's example; != of modes. -/
import Derived.Test.YtnjkpamjjdkmoaaMd4
import Derived.Test.YtnjkpamjjdkmoaaFrame
namespace Go.Proofs.Ytnjkpamjjdkmoaa
open Go.RowKit Go.Own
set_option linter.unusedVariables false
set_option linter.unusedSimpArgs false
def c24 : Cf := ⟨2, 0, 0, fun _ => 0⟩
theorem c24_ok : c24.Ok := ⟨by decide, by decide, by decide, fun k _ => by show 0 < 65536; decide⟩
theorem moZ_ok : moZ.Ok := by unfold Mo.Ok moZ; decide
theorem Ask_ex (w : World) : Calls Try.prog 69 #[.agg #[.int .u8 0, .int .u16 0, .int .u8 0, .int .u8 0, .int .u8 0], .agg #[.int .u8 2, .int .u8 0, .int .u8 0, .int .u16 0, .int .u16 0, .int .u16 0, .int .u16 0], .int .u8 1] w fun e w' => e = .returned (.tuple #[.agg #[.int .u8 1, .int .u16 0, .int .u8 0, .int .u8 0, .int .u8 0], .int .i64 0]) ∧ Below w.heap.size w w' :=
  Ask_any moZ c24 1 w moZ_ok c24_ok (by decide)
theorem Step_exa (w : World) : Calls Try.prog 67 #[.agg #[.int .u8 1, .int .u16 0, .int .u8 0, .int .u8 0, .int .u8 0], .agg #[.int .u8 2, .int .u8 0, .int .u8 0, .int .u16 0, .int .u16 0, .int .u16 0, .int .u16 0], .bool true, .bool false, .bool false] w fun e w' => e = .returned (.tuple #[.agg #[.int .u8 1, .int .u16 1, .int .u8 1, .int .u8 0, .int .u8 1], .int .u8 0]) ∧ Below w.heap.size w w' :=
  Step_any ⟨1, 0, 0, 0, 0⟩ c24 true false false w (by unfold Mo.Ok; decide) c24_ok
theorem Step_exb (w : World) : Calls Try.prog 67 #[.agg #[.int .u8 1, .int .u16 1, .int .u8 1, .int .u8 0, .int .u8 1], .agg #[.int .u8 2, .int .u8 0, .int .u8 0, .int .u16 0, .int .u16 0, .int .u16 0, .int .u16 0], .bool true, .bool false, .bool false] w fun e w' => e = .returned (.tuple #[.agg #[.int .u8 2, .int .u16 0, .int .u8 0, .int .u8 0, .int .u8 0], .int .u8 2]) ∧ Below w.heap.size w w' :=
  Step_any ⟨1, 1, 1, 0, 1⟩ c24 true false false w (by unfold Mo.Ok; decide) c24_ok
set_option maxRecDepth 100000 in
set_option maxHeartbeats 2000000 in
theorem awake24 (w : World) : Calls Try.prog 65 #[] w fun e w' => e = .returned (.bool true) ∧ Below w.heap.size w w' := by
  have hz := zero_mo
  have hz2 := zero_cf
  have hq := (Bq.nil w).new #[.int .u8 2, .int .u8 0, .int .u8 0, .int .u16 0, .int .u16 0, .int .u16 0, .int .u16 0] 126
  go_enter Try.func65, Try.ntmps65
  go_upto_region 2 with ((with_reducible show wpList _ _ _ (_ :: _) _ _); refine wpList_store_row rfl 126 _ _ rfl _ _ rfl rfl _ _ (heap_alloc_new _ _) (by exact size_cf) (by rfl) (by simp [Value.oneCell']) ?_; rw [World.setRow_alloc_new])
  obtain ⟨w1, hw1⟩ : ∃ w1, w1 = w.alloc (.cells #[.int .u8 2, .int .u8 0, .int .u8 0, .int .u16 0, .int .u16 0, .int .u16 0, .int .u16 0] 126) := ⟨_, rfl⟩
  rw [← hw1] at hq ⊢
  obtain ⟨g1, hg1⟩ : ∃ g, g = w.heap.size := ⟨_, rfl⟩
  rw [← hg1] at hq
  rw [show (Value.pointer (some ⟨w.heap.size, 0, none⟩)) = .pointer (some ⟨g1, 0, none⟩) by rw [hg1]]
  have HQ1 := Lib.hid (show Bq w w1 [(g1, #[.int .u8 2, .int .u8 0, .int .u8 0, .int .u16 0, .int .u16 0, .int .u16 0, .int .u16 0], 126)] from hq)
  clear hq hw1 hg1
  have b1 := HQ1.out.of 0 rfl
  go_wp2_with ((with_reducible show wpList _ _ _ (_ :: _) _ _); refine wpList_load_row rfl 126 _ rfl _ rfl _ _ _ _ b1 Try.underlying126 rfl (by exact size_cf) ?_; (try go_simp))
  refine (Ask_ex _).mono ?_
  rintro e w2 ⟨rfl, hb⟩
  have HQ2 := Lib.hid ((HQ1.out.step hb).new #[.int .u8 1, .int .u16 0, .int .u8 0, .int .u8 0, .int .u8 0] 123)
  clear hb b1 HQ1
  go_upto_region 3 with ((with_reducible show wpList _ _ _ (_ :: _) _ _); refine wpList_store_row rfl 123 _ _ rfl _ _ rfl rfl _ _ (heap_alloc_new _ _) (by exact size_mo) (by rfl) (by simp [Value.oneCell']) ?_; rw [World.setRow_alloc_new])
  obtain ⟨w3, hw3⟩ : ∃ w1, w1 = w2.alloc (.cells #[.int .u8 1, .int .u16 0, .int .u8 0, .int .u8 0, .int .u8 0] 123) := ⟨_, rfl⟩
  obtain ⟨g2, hg2⟩ : ∃ g, g = w2.heap.size := ⟨_, rfl⟩
  have HQ3 := Lib.hid (show Bq w w3 [(g1, #[.int .u8 2, .int .u8 0, .int .u8 0, .int .u16 0, .int .u16 0, .int .u16 0, .int .u16 0], 126), (g2, #[.int .u8 1, .int .u16 0, .int .u8 0, .int .u8 0, .int .u8 0], 123)] by rw [hw3, hg2]; exact HQ2.out)
  rw [← hw3, ← hg2]
  clear hw3 hg2 HQ2
  have b1 := HQ3.out.of 0 rfl
  have b2 := HQ3.out.of 1 rfl
  go_wp2_with (first | ((with_reducible show wpList _ _ _ (_ :: _) _ _); refine wpList_load_row rfl 123 _ rfl _ rfl _ _ _ _ b2 Try.underlying123 rfl (by exact size_mo) ?_; (try go_simp)) | ((with_reducible show wpList _ _ _ (_ :: _) _ _); refine wpList_load_row rfl 126 _ rfl _ rfl _ _ _ _ b1 Try.underlying126 rfl (by exact size_cf) ?_; (try go_simp)))
  refine (Step_exa _).mono ?_
  rintro e w4 ⟨rfl, hb⟩
  have hq := HQ3.out.step hb
  have b2 := hq.of 1 rfl
  have HV := Lib.hid (hq.put 1 rfl #[.int .u8 1, .int .u16 1, .int .u8 1, .int .u8 0, .int .u8 1])
  clear hb b1 HQ3 hq
  go_upto_region 4 with ((with_reducible show wpList _ _ _ (_ :: _) _ _); refine wpList_store_row rfl 123 _ _ rfl _ _ rfl rfl _ _ b2 (by exact size_mo) (by rfl) (by simp [Value.oneCell']) ?_)
  obtain ⟨w5, hw5⟩ : ∃ w1, w1 = w4.setRow g2 #[.int .u8 1, .int .u16 1, .int .u8 1, .int .u8 0, .int .u8 1] := ⟨_, rfl⟩
  have HQ5 := Lib.hid (show Bq w w5 [(g1, #[.int .u8 2, .int .u8 0, .int .u8 0, .int .u16 0, .int .u16 0, .int .u16 0, .int .u16 0], 126), (g2, #[.int .u8 1, .int .u16 1, .int .u8 1, .int .u8 0, .int .u8 1], 123)] by rw [hw5]; exact HV.out)
  rw [← hw5]
  clear hw5 HV b2
  have b1 := HQ5.out.of 0 rfl
  have b2 := HQ5.out.of 1 rfl
  go_wp2_with (first | ((with_reducible show wpList _ _ _ (_ :: _) _ _); refine wpList_load_row rfl 123 _ rfl _ rfl _ _ _ _ b2 Try.underlying123 rfl (by exact size_mo) ?_; (try go_simp)) | ((with_reducible show wpList _ _ _ (_ :: _) _ _); refine wpList_load_row rfl 126 _ rfl _ rfl _ _ _ _ b1 Try.underlying126 rfl (by exact size_cf) ?_; (try go_simp)))
  refine (Step_exb _).mono ?_
  rintro e w6 ⟨rfl, hb⟩
  have HQ6 := Lib.hid ((HQ5.out.step hb).new #[.int .u8 2, .int .u16 0, .int .u8 0, .int .u8 0, .int .u8 0] 123)
  clear hb b1 b2 HQ5
  go_upto_region 5 with ((with_reducible show wpList _ _ _ (_ :: _) _ _); refine wpList_store_row rfl 123 _ _ rfl _ _ rfl rfl _ _ (heap_alloc_new _ _) (by exact size_mo) (by rfl) (by simp [Value.oneCell']) ?_; rw [World.setRow_alloc_new])
  obtain ⟨w7, hw7⟩ : ∃ w1, w1 = w6.alloc (.cells #[.int .u8 2, .int .u16 0, .int .u8 0, .int .u8 0, .int .u8 0] 123) := ⟨_, rfl⟩
  obtain ⟨g3, hg3⟩ : ∃ g, g = w6.heap.size := ⟨_, rfl⟩
  have HQ7 := Lib.hid (show Bq w w7 [(g1, #[.int .u8 2, .int .u8 0, .int .u8 0, .int .u16 0, .int .u16 0, .int .u16 0, .int .u16 0], 126), (g2, #[.int .u8 1, .int .u16 1, .int .u8 1, .int .u8 0, .int .u8 1], 123), (g3, #[.int .u8 2, .int .u16 0, .int .u8 0, .int .u8 0, .int .u8 0], 123)] by rw [hw7, hg3]; exact HQ6.out)
  rw [← hw7, ← hg3]
  clear hw7 hg3 HQ6
  have c2 : w7.cell? ⟨g2, 0, none⟩ = some (.int .u8 1) := cell_of_row _ _ 0 _ _ _ (HQ7.out.of 1 rfl)
  have c3 : w7.cell? ⟨g3, 0, none⟩ = some (.int .u8 2) := cell_of_row _ _ 0 _ _ _ (HQ7.out.of 2 rfl)
  go_wp2_with fail
  go_ret
  exact ⟨rfl, HQ7.out.be⟩
theorem mo_of {x y z u v : Int} (hx : (Lit.int .u8 x).wf = true) (hy : (Lit.int .u16 y).wf = true) (hz : (Lit.int .u8 z).wf = true) (hu : (Lit.int .u8 u).wf = true) (hv : (Lit.int .u8 v).wf = true) : ∃ a : Mo, a.m < 256 ∧ a.s < 65536 ∧ a.c < 256 ∧ a.n < 256 ∧ a.d < 256 ∧ x = (a.m : Nat) ∧ y = (a.s : Nat) ∧ z = (a.c : Nat) ∧ u = (a.n : Nat) ∧ v = (a.d : Nat) := by
  have h1 := bounds_u8 hx
  have h2 := bounds_u16 hy
  have h3 := bounds_u8 hz
  have h4 := bounds_u8 hu
  have h5 := bounds_u8 hv
  exact ⟨⟨x.toNat, y.toNat, z.toNat, u.toNat, v.toNat⟩, by dsimp only; omega, by dsimp only; omega, by dsimp only; omega, by dsimp only; omega, by dsimp only; omega, by dsimp only; omega, by dsimp only; omega, by dsimp only; omega, by dsimp only; omega, by dsimp only; omega⟩
end Go.Proofs.Ytnjkpamjjdkmoaa
