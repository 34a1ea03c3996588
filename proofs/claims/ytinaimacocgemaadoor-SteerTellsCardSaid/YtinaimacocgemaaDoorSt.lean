/- Layer 23: axes, the dipole. -/
import Derived.Test.YtinaimacocgemaaDoorLaw02
import Derived.Test.YtinaimacocgemaaDoorFlo3
import Derived.Test.YtinaimacocgemaaDoorKeep
import Derived.Laws.ResultCell
import Derived.Deep.WholeRow
import Derived.Deep.CutBlock
import Derived.Deep.DeepCutAuto
namespace Go.Proofs.YtinaimacocgemaaDoor
open Go.RowKit Go.Own
set_option linter.unusedVariables false
set_option linter.unusedSimpArgs false
theorem size_vc : (Tryd.prog.info? 23).map (·.size) = some 3 := by kernel_rfl
theorem zero_vcS (w : World) : (zeroValue 23).run Tryd.prog w = .ok (.agg #[.int .i32 0, .int .i32 0, .int .i32 0]) w := by kernel_rfl
theorem bel_rowV {B g : Nat} {w w' : World} (h : Below B w w') (hg : B ≤ g) (cs : Array Value) : Below B w (w'.setRow g cs) :=
  ⟨h.os, h.tape, h.output, by simpa [World.setRow] using h.size, fun i hi => (setRow_other _ g i _ (by omega)).trans (h.block i hi)⟩
/-- The parts of a vector are of 32 bits. -/
def In3 (a : Nat → Int) : Prop := ∀ k, k < 3 → -2147483648 ≤ a k ∧ a k ≤ 2147483647
theorem in3_sat {f a : Nat → Int} (h : ∀ k, a k = Fx.sat (f k)) : In3 a := fun k _ => by rw [h]; exact ⟨Fx.sat_lo _, Fx.sat_hi _⟩
def subF (a b : Nat → Int) (k : Nat) : Int := Fx.sat (a k - b k)
def scaleF (a : Nat → Int) (n q : Int) (k : Nat) : Int := Fx.sat (a k * n / Fx.pw q)
def negF (a : Nat → Int) (k : Nat) : Int := Fx.sat (-(a k))
def clampF (a : Nat → Int) (m : Int) (k : Nat) : Int := Fx.clamp (a k) (-(max m 0)) (max m 0)
def crossF (a b : Nat → Int) (q : Int) (k : Nat) : Int := crs (a ((k + 1) % 3) * b ((k + 2) % 3) - a ((k + 2) % 3) * b ((k + 1) % 3)) q
theorem in3_sub (a b : Nat → Int) : In3 (subF a b) := in3_sat (fun _ => rfl)
theorem in3_scale (a : Nat → Int) (n q : Int) : In3 (scaleF a n q) := in3_sat (fun _ => rfl)
theorem in3_neg (a : Nat → Int) : In3 (negF a) := in3_sat (fun _ => rfl)
theorem in3_cross (a b : Nat → Int) (q : Int) : In3 (crossF a b q) := fun _ _ => ⟨Fx.sat_lo _, Fx.sat_hi _⟩
theorem vSubF (a b : Nat → Int) (w : World) (ha : In3 a) (hb : In3 b) : Calls Tryd.prog 32 #[.agg #[.int .i32 (a 0), .int .i32 (a 1), .int .i32 (a 2)], .agg #[.int .i32 (b 0), .int .i32 (b 1), .int .i32 (b 2)]] w fun e w' => e = .returned (.agg #[.int .i32 (subF a b 0), .int .i32 (subF a b 1), .int .i32 (subF a b 2)]) ∧ Below w.heap.size w w' :=
  vSub_any _ _ _ _ _ _ w (ha 0 (by decide)).1 (ha 0 (by decide)).2 (ha 1 (by decide)).1 (ha 1 (by decide)).2 (ha 2 (by decide)).1 (ha 2 (by decide)).2 (hb 0 (by decide)).1 (hb 0 (by decide)).2 (hb 1 (by decide)).1 (hb 1 (by decide)).2 (hb 2 (by decide)).1 (hb 2 (by decide)).2
theorem vNegF (a : Nat → Int) (w : World) (ha : In3 a) : Calls Tryd.prog 34 #[.agg #[.int .i32 (a 0), .int .i32 (a 1), .int .i32 (a 2)]] w fun e w' => e = .returned (.agg #[.int .i32 (negF a 0), .int .i32 (negF a 1), .int .i32 (negF a 2)]) ∧ Below w.heap.size w w' :=
  vNeg_any _ _ _ w (ha 0 (by decide)).1 (ha 0 (by decide)).2 (ha 1 (by decide)).1 (ha 1 (by decide)).2 (ha 2 (by decide)).1 (ha 2 (by decide)).2
theorem vScaleF (a : Nat → Int) (n q : Int) (w : World) (ha : In3 a) (h0 : -2147483648 ≤ n) (h1 : n ≤ 2147483647) : Calls Tryd.prog 26 #[.agg #[.int .i32 (a 0), .int .i32 (a 1), .int .i32 (a 2)], .int .i32 n, .int .i64 q] w fun e w' => e = .returned (.agg #[.int .i32 (scaleF a n q 0), .int .i32 (scaleF a n q 1), .int .i32 (scaleF a n q 2)]) ∧ Below w.heap.size w w' :=
  vScale_any _ _ _ n q w (ha 0 (by decide)).1 (ha 0 (by decide)).2 (ha 1 (by decide)).1 (ha 1 (by decide)).2 (ha 2 (by decide)).1 (ha 2 (by decide)).2 h0 h1
theorem vClampF (a : Nat → Int) (m : Int) (w : World) (h0 : -2147483648 ≤ m) (h1 : m ≤ 2147483647) : Calls Tryd.prog 33 #[.agg #[.int .i32 (a 0), .int .i32 (a 1), .int .i32 (a 2)], .int .i32 m] w fun e w' => e = .returned (.agg #[.int .i32 (clampF a m 0), .int .i32 (clampF a m 1), .int .i32 (clampF a m 2)]) ∧ Below w.heap.size w w' :=
  vClamp_any _ _ _ m w h0 h1
/-- A unit vector. -/
def axv (i : Int) (k : Nat) : Int := if i = (k : Int) then 1000 else 0
theorem in3_ax (i : Int) : In3 (axv i) := fun k _ => by unfold axv; split <;> decide
theorem axv_other {i : Int} (h : i < 0 ∨ 3 ≤ i) (k : Nat) (hk : k < 3) : axv i k = 0 := by unfold axv; rw [if_neg (by omega)]
set_option maxHeartbeats 1000000 in
theorem Axis_any (i : Int) (w : World) : Calls Tryd.prog 19 #[.int .i64 i] w fun e w' => e = .returned (.agg #[.int .i32 (axv i 0), .int .i32 (axv i 1), .int .i32 (axv i 2)]) ∧ Below w.heap.size w w' := by
  rcases (by omega : i = 0 ∨ i = 1 ∨ i = 2 ∨ i < 0 ∨ (0 ≤ i ∧ 3 ≤ i)) with rfl | rfl | rfl | h | ⟨h0, h⟩
  · rw [show axv 0 0 = 1000 from rfl, show axv 0 1 = 0 from rfl, show axv 0 2 = 0 from rfl]
    go_enter Tryd.func19, Tryd.ntmps19
    go_wp2
    exact bodyPost_ret (v := .agg #[.int .i32 1000, .int .i32 0, .int .i32 0]) (by simp [results, Tryd.results19, go_sem]) rfl ⟨rfl, by repeat' (first | (with_reducible exact Below.refl _ _) | (with_reducible assumption) | (with_reducible refine Below.setCell ?_ ?_ _) | (with_reducible refine Below.alloc ?_ ?_ _) | (with_reducible refine Below.drew ?_) | (with_reducible refine Below.drawsN ?_ _) | go_size)⟩
  · rw [show axv 1 0 = 0 from rfl, show axv 1 1 = 1000 from rfl, show axv 1 2 = 0 from rfl]
    go_enter Tryd.func19, Tryd.ntmps19
    go_wp2
    exact bodyPost_ret (v := .agg #[.int .i32 0, .int .i32 1000, .int .i32 0]) (by simp [results, Tryd.results19, go_sem]) rfl ⟨rfl, by repeat' (first | (with_reducible exact Below.refl _ _) | (with_reducible assumption) | (with_reducible refine Below.setCell ?_ ?_ _) | (with_reducible refine Below.alloc ?_ ?_ _) | (with_reducible refine Below.drew ?_) | (with_reducible refine Below.drawsN ?_ _) | go_size)⟩
  · rw [show axv 2 0 = 0 from rfl, show axv 2 1 = 0 from rfl, show axv 2 2 = 1000 from rfl]
    go_enter Tryd.func19, Tryd.ntmps19
    go_wp2
    exact bodyPost_ret (v := .agg #[.int .i32 0, .int .i32 0, .int .i32 1000]) (by simp [results, Tryd.results19, go_sem]) rfl ⟨rfl, by repeat' (first | (with_reducible exact Below.refl _ _) | (with_reducible assumption) | (with_reducible refine Below.setCell ?_ ?_ _) | (with_reducible refine Below.alloc ?_ ?_ _) | (with_reducible refine Below.drew ?_) | (with_reducible refine Below.drawsN ?_ _) | go_size)⟩
  · rw [axv_other (.inl h) 0 (by decide), axv_other (.inl h) 1 (by decide), axv_other (.inl h) 2 (by decide)]
    go_enter Tryd.func19, Tryd.ntmps19
    go_wp2
    exact bodyPost_ret (v := .agg #[.int .i32 0, .int .i32 0, .int .i32 0]) (by simp [results, Tryd.results19, go_sem]) rfl ⟨rfl, by repeat' (first | (with_reducible exact Below.refl _ _) | (with_reducible assumption) | (with_reducible refine Below.setCell ?_ ?_ _) | (with_reducible refine Below.alloc ?_ ?_ _) | (with_reducible refine Below.drew ?_) | (with_reducible refine Below.drawsN ?_ _) | go_size)⟩
  · rw [axv_other (.inr h) 0 (by decide), axv_other (.inr h) 1 (by decide), axv_other (.inr h) 2 (by decide)]
    go_enter Tryd.func19, Tryd.ntmps19
    go_wp2
    exact bodyPost_ret (v := .agg #[.int .i32 0, .int .i32 0, .int .i32 0]) (by simp [results, Tryd.results19, go_sem]) rfl ⟨rfl, by repeat' (first | (with_reducible exact Below.refl _ _) | (with_reducible assumption) | (with_reducible refine Below.setCell ?_ ?_ _) | (with_reducible refine Below.alloc ?_ ?_ _) | (with_reducible refine Below.drew ?_) | (with_reducible refine Below.drawsN ?_ _) | go_size)⟩
/-- Three boxes of vectors, one behind the other, made by a call. -/
structure V3 (w wr : World) (A B C : Array Value) : Prop where
  be : Below w.heap.size w wr
  b0 : wr.heap[w.heap.size]? = some (.cells A 23 (0, 0))
  b1 : wr.heap[w.heap.size + 1]? = some (.cells B 23 (0, 0))
  b2 : wr.heap[w.heap.size + 1 + 1]? = some (.cells C 23 (0, 0))
theorem V3.new (w : World) (A B C : Array Value) : V3 w (((w.alloc (.cells A 23)).alloc (.cells B 23)).alloc (.cells C 23)) A B C :=
  ⟨by repeat' (first | (with_reducible exact Below.refl _ _) | (with_reducible assumption) | (with_reducible refine Below.setCell ?_ ?_ _) | (with_reducible refine Below.alloc ?_ ?_ _) | (with_reducible refine Below.drew ?_) | (with_reducible refine Below.drawsN ?_ _) | go_size), (Below.heap_alloc _ _ _ (by simp; omega)).trans ((Below.heap_alloc _ _ _ (by simp)).trans (heap_alloc_new w _)), (Below.heap_alloc _ _ _ (by simp)).trans (heap_alloc2_new w _ _), by
    have := heap_alloc2_new (w.alloc (.cells A 23)) (.cells B 23) (.cells C 23)
    rw [World.size_alloc] at this
    exact this⟩
theorem V3.step {w wr w' : World} {A B C : Array Value} (h : V3 w wr A B C) (hb : Below wr.heap.size wr w') : V3 w w' A B C :=
  ⟨h.be.trans (hb.mono h.be.size), box_below h.b0 hb (box_lt h.b0), box_below h.b1 hb (box_lt h.b1), box_below h.b2 hb (box_lt h.b2)⟩
theorem V3.put {w wr : World} {A B C : Array Value} (h : V3 w wr A B C) (D : Array Value) : V3 w (wr.setRow (w.heap.size + 1 + 1) D) A B D :=
  ⟨bel_rowV h.be (by omega) D, (setRow_other _ _ _ _ (by omega)).trans h.b0, (setRow_other _ _ _ _ (by omega)).trans h.b1, setRow_heap _ _ _ _ _ _ h.b2⟩
/-- The dipole. -/
def bdF (a l : Nat → Int) (g q m : Int) : Nat → Int := clampF (negF (scaleF (subF a l) g q)) m
set_option maxRecDepth 100000 in
set_option maxHeartbeats 2000000 in
theorem Bdot_any (a l : Nat → Int) (g q m : Int) (w : World) (ha : In3 a) (hl : In3 l) (hg0 : -2147483648 ≤ g) (hg1 : g ≤ 2147483647) (hm0 : -2147483648 ≤ m) (hm1 : m ≤ 2147483647) :
    Calls Tryd.prog 18 #[.agg #[.int .i32 (a 0), .int .i32 (a 1), .int .i32 (a 2)], .agg #[.int .i32 (l 0), .int .i32 (l 1), .int .i32 (l 2)], .bool false, .int .i32 g, .int .i64 q, .int .i32 m] w fun e w' => e = .returned (.agg #[.int .i32 (bdF a l g q m 0), .int .i32 (bdF a l g q m 1), .int .i32 (bdF a l g q m 2)]) ∧ Below w.heap.size w w' := by
  have hz := zero_vcS
  have HV := Lib.hid (V3.new w #[.int .i32 (a 0), .int .i32 (a 1), .int .i32 (a 2)] #[.int .i32 (l 0), .int .i32 (l 1), .int .i32 (l 2)] #[.int .i32 0, .int .i32 0, .int .i32 0])
  go_enter Tryd.func18, Tryd.ntmps18
  go_upto_region 1 with fail
  obtain ⟨w1, hw1⟩ : ∃ w1, w1 = ((w.alloc (.cells #[.int .i32 (a 0), .int .i32 (a 1), .int .i32 (a 2)] 23)).alloc (.cells #[.int .i32 (l 0), .int .i32 (l 1), .int .i32 (l 2)] 23)).alloc (.cells #[.int .i32 0, .int .i32 0, .int .i32 0] 23) := ⟨_, rfl⟩
  rw [← hw1] at HV ⊢
  clear hw1
  have b0 := HV.out.b0
  have b1 := HV.out.b1
  go_wp2_with (first | ((with_reducible show wpList _ _ _ (_ :: _) _ _); refine wpList_load_row rfl 23 _ rfl _ rfl _ _ _ _ b0 Tryd.underlying23 rfl (by exact size_vc) ?_; (try go_simp)) | ((with_reducible show wpList _ _ _ (_ :: _) _ _); refine wpList_load_row rfl 23 _ rfl _ rfl _ _ _ _ b1 Tryd.underlying23 rfl (by exact size_vc) ?_; (try go_simp)))
  refine (vSubF a l _ ha hl).mono ?_
  rintro e w2 ⟨rfl, hb⟩
  have HV2 := Lib.hid (HV.out.step hb)
  clear hb HV b0 b1
  go_upto_region 4 with ((with_reducible show wpList _ _ _ (_ :: _) _ _); refine wpList_store_row rfl 23 _ _ rfl _ _ rfl rfl _ _ (heap_alloc_new _ _) (by exact size_vc) (by rfl) (by simp [Value.oneCell']) ?_; rw [World.setRow_alloc_new])
  have b3 := heap_alloc_new w2 (.cells #[.int .i32 (subF a l 0), .int .i32 (subF a l 1), .int .i32 (subF a l 2)] 23)
  have HV3 := Lib.hid (HV2.out.step (show Below w2.heap.size w2 (w2.alloc (.cells #[.int .i32 (subF a l 0), .int .i32 (subF a l 1), .int .i32 (subF a l 2)] 23)) by repeat' (first | (with_reducible exact Below.refl _ _) | (with_reducible assumption) | (with_reducible refine Below.setCell ?_ ?_ _) | (with_reducible refine Below.alloc ?_ ?_ _) | (with_reducible refine Below.drew ?_) | (with_reducible refine Below.drawsN ?_ _) | go_size)))
  obtain ⟨w3, hw3⟩ : ∃ w3, w3 = w2.alloc (.cells #[.int .i32 (subF a l 0), .int .i32 (subF a l 1), .int .i32 (subF a l 2)] 23) := ⟨_, rfl⟩
  rw [← hw3] at b3 HV3 ⊢
  clear hw3 HV2
  go_wp2_with ((with_reducible show wpList _ _ _ (_ :: _) _ _); refine wpList_load_row rfl 23 _ rfl _ rfl _ _ _ _ b3 Tryd.underlying23 rfl (by exact size_vc) ?_; (try go_simp))
  refine (vScaleF _ g q _ (in3_sub a l) hg0 hg1).mono ?_
  rintro e w4 ⟨rfl, hb⟩
  have HV4 := Lib.hid (HV3.out.step hb)
  clear hb HV3 b3
  go_wp2_with fail
  go_at_call 34
  refine (vNegF _ _ (in3_scale _ g q)).mono ?_
  rintro e w5 ⟨rfl, hb⟩
  have HV5 := Lib.hid (HV4.out.step hb)
  clear hb HV4
  go_wp2_with fail
  go_at_call 33
  refine (vClampF _ m _ hm0 hm1).mono ?_
  rintro e w6 ⟨rfl, hb⟩
  have hV := HV5.out.step hb
  have b2 := hV.b2
  have HV6 := Lib.hid (hV.put #[.int .i32 (bdF a l g q m 0), .int .i32 (bdF a l g q m 1), .int .i32 (bdF a l g q m 2)])
  clear hb HV5 hV
  go_wp2_with ((with_reducible show wpList _ _ _ (_ :: _) _ _); refine wpList_store_row rfl 23 _ _ rfl _ _ rfl rfl _ _ b2 (by exact size_vc) (by rfl) (by simp [Value.oneCell']) ?_)
  refine bodyPost_ret (results_cell_row rfl _ _ _ _ _ _ _ rfl HV6.out.b2 Tryd.underlying23 rfl (by exact size_vc)) rfl ?_
  exact ⟨rfl, HV6.out.be⟩
set_option maxRecDepth 100000 in
set_option maxHeartbeats 2000000 in
theorem Bdot_first (a l : Nat → Int) (g q m : Int) (w : World) :
    Calls Tryd.prog 18 #[.agg #[.int .i32 (a 0), .int .i32 (a 1), .int .i32 (a 2)], .agg #[.int .i32 (l 0), .int .i32 (l 1), .int .i32 (l 2)], .bool true, .int .i32 g, .int .i64 q, .int .i32 m] w fun e w' => e = .returned (.agg #[.int .i32 0, .int .i32 0, .int .i32 0]) ∧ Below w.heap.size w w' := by
  have hz := zero_vcS
  have HV := Lib.hid (V3.new w #[.int .i32 (a 0), .int .i32 (a 1), .int .i32 (a 2)] #[.int .i32 (l 0), .int .i32 (l 1), .int .i32 (l 2)] #[.int .i32 0, .int .i32 0, .int .i32 0])
  go_enter Tryd.func18, Tryd.ntmps18
  go_upto_region 1 with fail
  obtain ⟨w1, hw1⟩ : ∃ w1, w1 = ((w.alloc (.cells #[.int .i32 (a 0), .int .i32 (a 1), .int .i32 (a 2)] 23)).alloc (.cells #[.int .i32 (l 0), .int .i32 (l 1), .int .i32 (l 2)] 23)).alloc (.cells #[.int .i32 0, .int .i32 0, .int .i32 0] 23) := ⟨_, rfl⟩
  rw [← hw1] at HV ⊢
  clear hw1
  have b2 := HV.out.b2
  have HV6 := Lib.hid (HV.out.put #[.int .i32 0, .int .i32 0, .int .i32 0])
  go_wp2_with ((with_reducible show wpList _ _ _ (_ :: _) _ _); refine wpList_store_row rfl 23 _ _ rfl _ _ rfl rfl _ _ b2 (by exact size_vc) (by rfl) (by simp [Value.oneCell']) ?_)
  refine bodyPost_ret (results_cell_row rfl _ _ _ _ _ _ _ rfl HV6.out.b2 Tryd.underlying23 rfl (by exact size_vc)) rfl ?_
  exact ⟨rfl, HV6.out.be⟩
/-- The torque to the sun. -/
def sunF (s r : Nat → Int) (i kp kd q m : Int) : Nat → Int := clampF (subF (scaleF (crossF (axv i) s 10) kp q) (scaleF r kd q)) m
end Go.Proofs.YtinaimacocgemaaDoor
