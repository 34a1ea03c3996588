/- Layer 23, over the wheels' axes: the document's shares; what is calm, seen. -/
import Derived.Test.YtinaimacocgemaaDoorSd2
import Derived.Test.YtinaimacocgemaaDoorStr
import Derived.Test.YtinaimacocgemaaDoorLaw23
namespace Go.Proofs.YtinaimacocgemaaDoor
open Go.RowKit Go.Own Bs
set_option linter.unusedVariables false
set_option linter.unusedSimpArgs false
set_option maxHeartbeats 1000000 in
theorem Signs_any (i : Nat) (w : World) (hi : i < 4) : Calls Tryd.prog 14 #[.int .i64 (i : Nat)] w fun e w' => e = .returned (.agg #[.int .i64 (wa i 0), .int .i64 (wa i 1), .int .i64 (wa i 2)]) ∧ Below w.heap.size w w' := by
  rcases (by omega : i = 0 ∨ i = 1 ∨ i = 2 ∨ i = 3) with rfl | rfl | rfl | rfl
  · go_enter Tryd.func14, Tryd.ntmps14
    go_wp2
    exact bodyPost_ret (v := .agg #[.int .i64 (wa 0 0), .int .i64 (wa 0 1), .int .i64 (wa 0 2)]) (by simp [results, Tryd.results14, go_sem]; decide) rfl ⟨rfl, by repeat' (first | (with_reducible exact Below.refl _ _) | (with_reducible assumption) | (with_reducible refine Below.setCell ?_ ?_ _) | (with_reducible refine Below.alloc ?_ ?_ _) | (with_reducible refine Below.drew ?_) | (with_reducible refine Below.drawsN ?_ _) | go_size)⟩
  · go_enter Tryd.func14, Tryd.ntmps14
    go_wp2
    exact bodyPost_ret (v := .agg #[.int .i64 (wa 1 0), .int .i64 (wa 1 1), .int .i64 (wa 1 2)]) (by simp [results, Tryd.results14, go_sem]; decide) rfl ⟨rfl, by repeat' (first | (with_reducible exact Below.refl _ _) | (with_reducible assumption) | (with_reducible refine Below.setCell ?_ ?_ _) | (with_reducible refine Below.alloc ?_ ?_ _) | (with_reducible refine Below.drew ?_) | (with_reducible refine Below.drawsN ?_ _) | go_size)⟩
  · go_enter Tryd.func14, Tryd.ntmps14
    go_wp2
    exact bodyPost_ret (v := .agg #[.int .i64 (wa 2 0), .int .i64 (wa 2 1), .int .i64 (wa 2 2)]) (by simp [results, Tryd.results14, go_sem]; decide) rfl ⟨rfl, by repeat' (first | (with_reducible exact Below.refl _ _) | (with_reducible assumption) | (with_reducible refine Below.setCell ?_ ?_ _) | (with_reducible refine Below.alloc ?_ ?_ _) | (with_reducible refine Below.drew ?_) | (with_reducible refine Below.drawsN ?_ _) | go_size)⟩
  · go_enter Tryd.func14, Tryd.ntmps14
    go_wp2
    exact bodyPost_ret (v := .agg #[.int .i64 (wa 3 0), .int .i64 (wa 3 1), .int .i64 (wa 3 2)]) (by simp [results, Tryd.results14, go_sem]; decide) rfl ⟨rfl, by repeat' (first | (with_reducible exact Below.refl _ _) | (with_reducible assumption) | (with_reducible refine Below.setCell ?_ ?_ _) | (with_reducible refine Below.alloc ?_ ?_ _) | (with_reducible refine Below.drew ?_) | (with_reducible refine Below.drawsN ?_ _) | go_size)⟩
@[go_sem] theorem six0 (w : World) (x y z : Int) : (Instr.index 34 (.agg #[.int .i64 x, .int .i64 y, .int .i64 z]) (.int .i64 0)).run Tryd.prog w = .ok (.int .i64 x) w := by kernel_rfl
@[go_sem] theorem six1 (w : World) (x y z : Int) : (Instr.index 34 (.agg #[.int .i64 x, .int .i64 y, .int .i64 z]) (.int .i64 1)).run Tryd.prog w = .ok (.int .i64 y) w := by kernel_rfl
@[go_sem] theorem six2 (w : World) (x y z : Int) : (Instr.index 34 (.agg #[.int .i64 x, .int .i64 y, .int .i64 z]) (.int .i64 2)).run Tryd.prog w = .ok (.int .i64 z) w := by kernel_rfl
theorem wa_mul (i j : Nat) (hi : i < 4) (hj : j < 3) {x : Int} (h0 : -2147483648 ≤ x) (h1 : x ≤ 2147483647) : -2147483648 ≤ wa i j * x ∧ wa i j * x ≤ 2147483648 := by
  have h := wa_bd i j hi hj
  rcases (by omega : wa i j = -1 ∨ wa i j = 0 ∨ wa i j = 1) with e | e | e <;> rw [e] <;> omega
theorem dotW_eq (t : Nat → Int) (k : Nat) (hk : k < 4) (ht : In3 t) : dotW t k = wa k 0 * t 0 + wa k 1 * t 1 + wa k 2 * t 2 := by
  have a := wa_mul k 0 hk (by decide) (ht 0 (by decide)).1 (ht 0 (by decide)).2
  have b := wa_mul k 1 hk (by decide) (ht 1 (by decide)).1 (ht 1 (by decide)).2
  have c := wa_mul k 2 hk (by decide) (ht 2 (by decide)).1 (ht 2 (by decide)).2
  unfold dotW
  generalize wa k 0 * t 0 = x at a ⊢
  generalize wa k 1 * t 1 = y at b ⊢
  generalize wa k 2 * t 2 = z at c ⊢
  simp only [Fx.sums, List.foldl]
  have s : ∀ v : Int, -9223372036854775808 ≤ v → v ≤ 9223372036854775807 → Fx.sat64 v = v := fun v h0 h1 => by unfold Fx.sat64; rw [if_neg (by omega), if_neg (by omega)]
  rw [s (0 + x) (by omega) (by omega), s (0 + x + y) (by omega) (by omega), s (0 + x + y + z) (by omega) (by omega)]
  omega
set_option maxRecDepth 100000 in
set_option maxHeartbeats 2000000 in
theorem rShare_any (t : Nat → Int) (i : Nat) (m : Int) (w : World) (hi : i < 4) (ht : In3 t) (hm0 : -2147483648 ≤ m) (hm1 : m ≤ 2147483647) : Calls Tryd.prog 9 #[.agg #[.int .i32 (t 0), .int .i32 (t 1), .int .i32 (t 2)], .int .i64 (i : Nat), .int .i32 m] w fun e w' => e = .returned (.int .i32 (shW t m i)) ∧ Below w.heap.size w w' := by
  have a := wa_mul i 0 hi (by decide) (ht 0 (by decide)).1 (ht 0 (by decide)).2
  have b := wa_mul i 1 hi (by decide) (ht 1 (by decide)).1 (ht 1 (by decide)).2
  have c := wa_mul i 2 hi (by decide) (ht 2 (by decide)).1 (ht 2 (by decide)).2
  have e := dotW_eq t i hi ht
  obtain ⟨S, hS⟩ : ∃ S, S = dotW t i := ⟨_, rfl⟩
  have hsh : shW t m i = Fx.clamp (Fx.sat (S / 4)) (-(max m 0)) (max m 0) := by rw [hS]; rfl
  rw [← hS] at e
  have sb : -6442450944 ≤ S ∧ S ≤ 6442450944 := by omega
  have HE := Lib.hid e
  clear e
  have h0 := heap_alloc_new w (.cells #[.int .i32 (t 0), .int .i32 (t 1), .int .i32 (t 2)] 23)
  have hb0 : Below w.heap.size w (w.alloc (.cells #[.int .i32 (t 0), .int .i32 (t 1), .int .i32 (t 2)] 23)) := by repeat' (first | (with_reducible exact Below.refl _ _) | (with_reducible assumption) | (with_reducible refine Below.setCell ?_ ?_ _) | (with_reducible refine Below.alloc ?_ ?_ _) | (with_reducible refine Below.drew ?_) | (with_reducible refine Below.drawsN ?_ _) | go_size)
  have HSH := Lib.hid hsh
  have b0 := ht 0 (by decide)
  have b1 := ht 1 (by decide)
  have b2 := ht 2 (by decide)
  clear hS hsh ht
  go_enter Tryd.func9, Tryd.ntmps9
  go_upto_region 1 with fail
  obtain ⟨w1, hw1⟩ : ∃ w1, w1 = w.alloc (.cells #[.int .i32 (t 0), .int .i32 (t 1), .int .i32 (t 2)] 23) := ⟨_, rfl⟩
  rw [← hw1] at h0 hb0 ⊢
  have HB := Lib.hid hb0
  have H0 := Lib.hid h0
  obtain ⟨g, hg⟩ : ∃ g, g = w.heap.size := ⟨_, rfl⟩
  have h0 : w1.heap[g]? = some (.cells #[.int .i32 (t 0), .int .i32 (t 1), .int .i32 (t 2)] 23 (0, 0)) := by rw [hg]; exact h0
  rw [show (Value.pointer (some ⟨w.heap.size, 0, none⟩)) = .pointer (some ⟨g, 0, none⟩) by rw [hg]]
  clear hw1 hb0 hg H0
  go_wp2_with fail
  go_at_call 14
  refine (Signs_any i _ hi).mono ?_
  rintro e w2 ⟨rfl, hb⟩
  have h0 := box_below h0 hb (box_lt h0)
  have c0 := cell_of_row _ _ 0 _ _ _ h0
  have c1 := cell_of_row _ _ 1 _ _ _ h0
  have c2 := cell_of_row _ _ 2 _ _ _ h0
  have HB2 := Lib.hid (HB.out.trans (hb.mono HB.out.size))
  have ha : IntKind.i64.wrap (wa i 0 * t 0) = wa i 0 * t 0 := IntWalk.i64_in _ (by omega)
  have hb' : IntKind.i64.wrap (wa i 1 * t 1) = wa i 1 * t 1 := IntWalk.i64_in _ (by omega)
  have hc : IntKind.i64.wrap (wa i 2 * t 2) = wa i 2 * t 2 := IntWalk.i64_in _ (by omega)
  clear hb h0 HB
  go_wp2_with fail
  refine wp_loop_rounds 4 ?_
  rw [rounds_succ]
  go_wp2_with fail
  rw [rounds_succ]
  go_wp2_with fail
  rw [rounds_succ]
  go_wp2_with fail
  rw [rounds_succ]
  go_wp2_with fail
  rw [← HE.out]
  obtain ⟨X, hX⟩ : ∃ X, X = Fx.sat (S / 4) := ⟨_, rfl⟩
  have x0 : -2147483648 ≤ X := by rw [hX]; exact Fx.sat_lo _
  have x1 : X ≤ 2147483647 := by rw [hX]; exact Fx.sat_hi _
  have HX := Lib.hid hX
  clear hX ha hb' hc a b c c0 c1 c2 b0 b1 b2
  refine (Down_any S 4 _ (by omega) (by omega) (by decide) (by decide)).mono ?_
  rintro e w3 ⟨rfl, rfl⟩
  go_wp2_with fail
  go_at_call 13
  refine (rSat_any _ _ (by omega) (by omega)).mono ?_
  rintro e w3 ⟨rfl, rfl⟩
  rw [← HX.out]
  go_wp2_with fail
  go_at_call 24
  refine (rclamp_any X m _ x0 x1 hm0 hm1).mono ?_
  rintro e w3 ⟨rfl, rfl⟩
  go_wp2_with fail
  go_ret
  exact ⟨by rw [HSH.out, HX.out]; rfl, HB2.out⟩
/-- The set of all four wheels. -/
theorem Of4 (g : Nat) (t : TypeId) (w : World) (h : w.heap[g]? = some (.cells #[.int .i64 0, .int .i64 1, .int .i64 2, .int .i64 3] t (0, 0))) : Calls Tryd.prog 11 #[.slice (some ⟨g, 0, none⟩) 4 4] w fun e w' => e = .returned (.int .u16 15) ∧ Below w.heap.size w w' := by
  have hr : Rd w.heap.size w (some ⟨g, 0, none⟩) 4 4 (iv [0, 1, 2, 3]) := ⟨Nat.le_refl _, by unfold maxLen; omega, (fun h => by cases h), fun _ => ⟨_, _, rfl, box_lt h, fun i hi => by
    rcases (by omega : i = 0 ∨ i = 1 ∨ i = 2 ∨ i = 3) with rfl | rfl | rfl | rfl
    · exact cell_of_row _ _ 0 _ _ _ h
    · exact cell_of_row _ _ 1 _ _ _ h
    · exact cell_of_row _ _ 2 _ _ _ h
    · exact cell_of_row _ _ 3 _ _ _ h⟩⟩
  have HW := Lib.hid (show Calls Tryd.prog 28 #[.int .u16 0, .slice (some ⟨g, 0, none⟩) 4 4] w fun e w' => e = .returned (.int .u16 15) ∧ Below w.heap.size w w' from With_any _ 4 4 w.heap.size 0 [0, 1, 2, 3] w (by decide) rfl (Nat.le_refl _) hr)
  clear hr h
  go_enter Tryd.func11, Tryd.ntmps11
  go_wp2_with fail
  go_at_call 28
  refine HW.out.mono ?_
  rintro e w2 ⟨rfl, hb⟩
  have HB := Lib.hid hb
  clear hb
  go_wp2_with fail
  go_ret
  exact ⟨rfl, HB.out⟩
def nmF (a : Nat → Int) : Int := max (mag (a 0)) (max (mag (a 1)) (mag (a 2)))
set_option maxHeartbeats 1000000 in
theorem Calm_v (a : Nat → Int) (m : Int) (w : World) (ha : In3 a) : Calls Tryd.prog 16 #[.agg #[.int .i32 (a 0), .int .i32 (a 1), .int .i32 (a 2)], .int .i32 m] w fun e w' => e = .returned (.bool (decide (nmF a ≤ m))) ∧ Below w.heap.size w w' := by
  have hN := fun w => vNorm_any (a 0) (a 1) (a 2) w (ha 0 (by decide)).1 (ha 0 (by decide)).2 (ha 1 (by decide)).1 (ha 1 (by decide)).2 (ha 2 (by decide)).1 (ha 2 (by decide)).2
  obtain ⟨N, hn⟩ : ∃ N, N = nmF a := ⟨_, rfl⟩
  have HN := Lib.hid (show ∀ w, Calls Tryd.prog 30 #[.agg #[.int .i32 (a 0), .int .i32 (a 1), .int .i32 (a 2)]] w fun e w' => e = .returned (.int .i32 N) ∧ Below w.heap.size w w' from by rw [hn]; exact hN)
  rw [← hn]
  clear hN hn ha
  have h0 := heap_alloc_new w (.cells #[.int .i32 (a 0), .int .i32 (a 1), .int .i32 (a 2)] 23)
  have hb0 : Below w.heap.size w (w.alloc (.cells #[.int .i32 (a 0), .int .i32 (a 1), .int .i32 (a 2)] 23)) := by repeat' (first | (with_reducible exact Below.refl _ _) | (with_reducible assumption) | (with_reducible refine Below.setCell ?_ ?_ _) | (with_reducible refine Below.alloc ?_ ?_ _) | (with_reducible refine Below.drew ?_) | (with_reducible refine Below.drawsN ?_ _) | go_size)
  go_enter Tryd.func16, Tryd.ntmps16
  go_upto_region 1 with fail
  obtain ⟨w1, hw1⟩ : ∃ w1, w1 = w.alloc (.cells #[.int .i32 (a 0), .int .i32 (a 1), .int .i32 (a 2)] 23) := ⟨_, rfl⟩
  rw [← hw1] at h0 hb0 ⊢
  have HB := Lib.hid hb0
  clear hw1 hb0
  go_wp2_with ((with_reducible show wpList _ _ _ (_ :: _) _ _); refine wpList_load_row rfl 23 _ rfl _ rfl _ _ _ _ h0 Tryd.underlying23 rfl (by exact size_vc) ?_; (try go_simp))
  refine (HN.out _).mono ?_
  rintro e w2 ⟨rfl, hb⟩
  have HB2 := Lib.hid (HB.out.trans (hb.mono HB.out.size))
  clear hb h0
  go_wp2_with fail
  go_ret
  exact ⟨rfl, HB2.out⟩
def szF (a : Nat → Int) : Int := ((Fx.root (Fx.sums [a 0 * a 0, a 1 * a 1, a 2 * a 2]) : Nat) : Int)
set_option maxHeartbeats 1000000 in
theorem Seen_v (a : Nat → Int) (m : Int) (w : World) (ha : In3 a) : Calls Tryd.prog 17 #[.agg #[.int .i32 (a 0), .int .i32 (a 1), .int .i32 (a 2)], .int .i32 m] w fun e w' => e = .returned (.bool (decide (m ≤ szF a))) ∧ Below w.heap.size w w' := by
  have hN := fun w => vSize_any (a 0) (a 1) (a 2) w (ha 0 (by decide)).1 (ha 0 (by decide)).2 (ha 1 (by decide)).1 (ha 1 (by decide)).2 (ha 2 (by decide)).1 (ha 2 (by decide)).2
  obtain ⟨N, hn⟩ : ∃ N, N = szF a := ⟨_, rfl⟩
  have HN := Lib.hid (show ∀ w, Calls Tryd.prog 31 #[.agg #[.int .i32 (a 0), .int .i32 (a 1), .int .i32 (a 2)]] w fun e w' => e = .returned (.int .i32 N) ∧ Below w.heap.size w w' from by rw [hn]; exact hN)
  rw [← hn]
  clear hN hn ha
  have h0 := heap_alloc_new w (.cells #[.int .i32 (a 0), .int .i32 (a 1), .int .i32 (a 2)] 23)
  have hb0 : Below w.heap.size w (w.alloc (.cells #[.int .i32 (a 0), .int .i32 (a 1), .int .i32 (a 2)] 23)) := by repeat' (first | (with_reducible exact Below.refl _ _) | (with_reducible assumption) | (with_reducible refine Below.setCell ?_ ?_ _) | (with_reducible refine Below.alloc ?_ ?_ _) | (with_reducible refine Below.drew ?_) | (with_reducible refine Below.drawsN ?_ _) | go_size)
  go_enter Tryd.func17, Tryd.ntmps17
  go_upto_region 1 with fail
  obtain ⟨w1, hw1⟩ : ∃ w1, w1 = w.alloc (.cells #[.int .i32 (a 0), .int .i32 (a 1), .int .i32 (a 2)] 23) := ⟨_, rfl⟩
  rw [← hw1] at h0 hb0 ⊢
  have HB := Lib.hid hb0
  clear hw1 hb0
  go_wp2_with ((with_reducible show wpList _ _ _ (_ :: _) _ _); refine wpList_load_row rfl 23 _ rfl _ rfl _ _ _ _ h0 Tryd.underlying23 rfl (by exact size_vc) ?_; (try go_simp))
  refine (HN.out _).mono ?_
  rintro e w2 ⟨rfl, hb⟩
  have HB2 := Lib.hid (HB.out.trans (hb.mono HB.out.size))
  clear hb h0
  go_wp2_with fail
  go_ret
  exact ⟨rfl, HB2.out⟩
def sgF (a : Nat → Int) (d : Int) (k : Nat) : Int := sgn (a k) (max d 0)
theorem size_ic : (Tryd.prog.info? 35).map (·.size) = some 3 := by kernel_rfl
set_option maxHeartbeats 1000000 in
theorem Pulses_v (a : Nat → Int) (d : Int) (w : World) (h0 : -2147483648 ≤ d) (h1 : d ≤ 2147483647) : Calls Tryd.prog 12 #[.agg #[.int .i32 (a 0), .int .i32 (a 1), .int .i32 (a 2)], .int .i32 d] w fun e w' => e = .returned (.agg #[.int .i64 (sgF a d 0), .int .i64 (sgF a d 1), .int .i64 (sgF a d 2)]) ∧ Below w.heap.size w w' := by
  have HS := Lib.hid (show ∀ w, Calls Tryd.prog 29 #[.agg #[.int .i32 (a 0), .int .i32 (a 1), .int .i32 (a 2)], .int .i32 d] w fun e w' => e = .returned (.agg #[.int .i64 (sgF a d 0), .int .i64 (sgF a d 1), .int .i64 (sgF a d 2)]) ∧ Below w.heap.size w w' from fun w => vSigns_any (a 0) (a 1) (a 2) d w h0 h1)
  have hz : ∀ w, (zeroValue 35).run Tryd.prog w = .ok (.agg #[.int .i64 0, .int .i64 0, .int .i64 0]) w := fun w => by kernel_rfl
  have hq := ((Bq.nil w).new #[.int .i32 (a 0), .int .i32 (a 1), .int .i32 (a 2)] 23).new #[.int .i64 0, .int .i64 0, .int .i64 0] 35
  simp only [World.size_alloc] at hq
  have HQ := Lib.hid hq
  clear hq
  go_enter Tryd.func12, Tryd.ntmps12
  go_upto_region 1 with fail
  obtain ⟨w1, hw1⟩ : ∃ w1, w1 = (w.alloc (.cells #[.int .i32 (a 0), .int .i32 (a 1), .int .i32 (a 2)] 23)).alloc (.cells #[.int .i64 0, .int .i64 0, .int .i64 0] 35) := ⟨_, rfl⟩
  rw [← hw1] at HQ ⊢
  clear hw1
  have b0 : w1.heap[w.heap.size]? = _ := HQ.out.of 0 rfl
  go_wp2_with ((with_reducible show wpList _ _ _ (_ :: _) _ _); refine wpList_load_row rfl 23 _ rfl _ rfl _ _ _ _ b0 Tryd.underlying23 rfl (by exact size_vc) ?_; (try go_simp))
  refine (HS.out _).mono ?_
  rintro e w2 ⟨rfl, hb⟩
  have hq := HQ.out.step hb
  have b1 : w2.heap[w.heap.size + 1]? = _ := hq.of 1 rfl
  have hq2 := hq.put 1 rfl #[.int .i64 (sgF a d 0), .int .i64 (sgF a d 1), .int .i64 (sgF a d 2)]
  have b2 := hq2.of 1 rfl
  have HB := Lib.hid hq2.be
  have HB2 := Lib.hid b2
  clear hb b0 hq hq2 b2 HQ
  go_wp2_with ((with_reducible show wpList _ _ _ (_ :: _) _ _); refine wpList_store_row rfl 35 _ _ rfl _ _ rfl rfl _ _ b1 (by exact size_ic) (by rfl) (by simp [Value.oneCell']) ?_)
  refine bodyPost_ret (results_cell_row rfl _ _ _ _ _ _ _ rfl HB2.out Tryd.underlying35 rfl (by exact size_ic)) rfl ?_
  exact ⟨rfl, HB.out⟩
end Go.Proofs.YtinaimacocgemaaDoor
