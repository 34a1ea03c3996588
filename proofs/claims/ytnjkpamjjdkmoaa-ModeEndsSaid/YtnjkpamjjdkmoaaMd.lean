/- Layer 24: the program's small functions on modes. -/
import Derived.Test.YtnjkpamjjdkmoaaFix
import Derived.Test.YtnjkpamjjdkmoaaKeep
import Derived.Test.YtnjkpamjjdkmoaaBx
import Derived.Test.YtnjkpamjjdkmoaaFlo3
import Derived.Test.YtnjkpamjjdkmoaaMdP
import Derived.Laws.ResultCell
import Derived.Deep.WholeRow
import Derived.Deep.CutBlock
import Derived.Deep.DeepCutAuto
import Derived.Deep.QuietTactic
import Derived.BigQuiet
namespace Go.Proofs.Ytnjkpamjjdkmoaa
open Go.RowKit Go.Own
set_option linter.unusedVariables false
set_option linter.unusedSimpArgs false
theorem size_mo : (Try.prog.info? 123).map (·.size) = some 5 := by kernel_rfl
theorem size_cf : (Try.prog.info? 126).map (·.size) = some 7 := by kernel_rfl
theorem zero_mo (w : World) : (zeroValue 123).run Try.prog w = .ok (.agg #[.int .u8 0, .int .u16 0, .int .u8 0, .int .u8 0, .int .u8 0]) w := by kernel_rfl
theorem zero_cf (w : World) : (zeroValue 126).run Try.prog w = .ok (.agg #[.int .u8 0, .int .u8 0, .int .u8 0, .int .u16 0, .int .u16 0, .int .u16 0, .int .u16 0]) w := by kernel_rfl
section
theorem results_ct {P : Program} {fn : Func} {p u : Tmp} {ty : TypeId} (h : fn.results = #[.cell p ty, .tmp u]) (tmps : Array Value) (w : World) (g : Nat) (t : TypeId) (cs : Array Value) (fr : Nat × Nat) {d : TypeDesc}
    (hp : tmps.getD p undef = .pointer (some ⟨g, 0, none⟩)) (hg : w.heap[g]? = some (.cells cs t fr))
    (hu : P.underlying ty = some d) (hd : (match d with | .struct _ | .array _ _ => true | _ => false) = true) (hi : (P.info? ty).map (·.size) = some cs.size) :
    (results fn tmps).run P w = .ok (.tuple #[.agg cs, tmps.getD u undef]) w := by
  rw [results_cell_tmp h]
  have hp' : tmps[p]?.getD undef = .pointer (some ⟨g, 0, none⟩) := by simpa using hp
  simp [hp', asAddr, run_loadVar_row w g t ty cs fr d hg hu hd hi]
end
set_option maxHeartbeats 400000 in
theorem isMode_any (m : Nat) (w : World) (h : m < 256) : Calls Try.prog 117 #[.int .u8 (m : Nat)] w fun e w' => e = .returned (.bool (decide (m < 4))) ∧ w = w' := by
  go_enter Try.func117, Try.ntmps117
  go_wp2
  go_ret
  exact ⟨congrArg (fun b => Ending.returned (.bool b)) (decide_eq_decide.2 (by omega)), rfl⟩
def ovr (s t : Nat) : Bool := decide (0 < t ∧ t ≤ s)
set_option maxHeartbeats 400000 in
theorem over_any (s t : Nat) (w : World) (hs : s < 65536) (ht : t < 65536) : Calls Try.prog 140 #[.int .u16 (s : Nat), .int .u16 (t : Nat)] w fun e w' => e = .returned (.bool (ovr s t)) ∧ w = w' := by
  unfold ovr
  rcases Nat.eq_zero_or_pos t with rfl | h0
  · go_enter Try.func140, Try.ntmps140
    go_wp2
    go_ret
    exact ⟨rfl, rfl⟩
  · by_cases h1 : t ≤ s
    · rw [decide_eq_true ⟨h0, h1⟩]
      go_enter Try.func140, Try.ntmps140
      go_wp2
      go_ret
      exact ⟨congrArg (fun b => Ending.returned (.bool b)) (by simp; omega), rfl⟩
    · rw [decide_eq_false (fun h => h1 h.2)]
      go_enter Try.func140, Try.ntmps140
      go_wp2
      go_ret
      exact ⟨rfl, rfl⟩
def strk (n : Nat) (b : Bool) : Nat := if b = true then upM n 255 else 0
set_option maxRecDepth 100000 in
set_option maxHeartbeats 400000 in
theorem streak_any (n : Nat) (b : Bool) (w : World) (hn : n < 256) : Calls Try.prog 139 #[.int .u8 (n : Nat), .bool b] w fun e w' => e = .returned (.int .u8 ((strk n b : Nat) : Int)) ∧ w = w' := by
  unfold strk upM
  cases b
  · go_enter Try.func139, Try.ntmps139
    go_wp2
    go_ret
    exact ⟨rfl, rfl⟩
  · rw [if_pos rfl]
    by_cases h1 : n < 255
    · rw [if_pos h1]
      go_enter Try.func139, Try.ntmps139
      go_wp2
      go_ret
      exact ⟨rfl, rfl⟩
    · rw [if_neg h1]
      go_enter Try.func139, Try.ntmps139
      go_wp2
      go_ret
      exact ⟨rfl, rfl⟩
/-- A mode from now on. -/
def moI (m : Nat) : Mo := ⟨m, 0, 0, 0, 0⟩
set_option maxHeartbeats 400000 in
theorem in_any (m : Nat) (w : World) (hm : m < 256) : Calls Try.prog 120 #[.int .u8 (m : Nat)] w fun e w' => e = .returned (.agg #[.int .u8 ((m : Nat) : Int), .int .u16 ((0 : Nat) : Int), .int .u8 ((0 : Nat) : Int), .int .u8 ((0 : Nat) : Int), .int .u8 ((0 : Nat) : Int)]) ∧ Below w.heap.size w w' := by
  have hz := zero_mo
  go_enter Try.func120, Try.ntmps120
  go_wp2_with ((with_reducible show wpList _ _ _ (_ :: _) _ _); refine wpList_store_row rfl 123 _ _ rfl _ _ rfl rfl _ _ (heap_alloc_new _ _) (by exact size_mo) (by rfl) (by simp [Value.oneCell']) ?_; rw [World.setRow_alloc_new])
  refine bodyPost_ret (results_cell_row rfl _ _ _ _ _ _ _ rfl (heap_alloc_new _ _) Try.underlying123 rfl (by exact size_mo)) rfl ?_
  exact ⟨rfl, by repeat' (first | (with_reducible exact Below.refl _ _) | (with_reducible assumption) | (with_reducible refine Below.setCell ?_ ?_ _) | (with_reducible refine Below.alloc ?_ ?_ _) | (with_reducible refine Below.drew ?_) | (with_reducible refine Below.drawsN ?_ _) | go_size)⟩
set_option maxHeartbeats 400000 in
theorem Fall_any (a : Mo) (w : World) : Calls Try.prog 71 #[.agg #[.int .u8 ((Mo.m a : Nat) : Int), .int .u16 ((Mo.s a : Nat) : Int), .int .u8 ((Mo.c a : Nat) : Int), .int .u8 ((Mo.n a : Nat) : Int), .int .u8 ((Mo.d a : Nat) : Int)]] w fun e w' => e = .returned (.agg #[.int .u8 0, .int .u16 0, .int .u8 0, .int .u8 0, .int .u8 0]) ∧ Below w.heap.size w w' := by
  have hz := zero_mo
  have hq := ((Bq.nil w).new #[.int .u8 ((Mo.m a : Nat) : Int), .int .u16 ((Mo.s a : Nat) : Int), .int .u8 ((Mo.c a : Nat) : Int), .int .u8 ((Mo.n a : Nat) : Int), .int .u8 ((Mo.d a : Nat) : Int)] 123).new #[.int .u8 0, .int .u16 0, .int .u8 0, .int .u8 0, .int .u8 0] 123
  go_enter Try.func71, Try.ntmps71
  go_upto_region 1 with fail
  rw [show (w.alloc (.cells #[.int .u8 ((Mo.m a : Nat) : Int), .int .u16 ((Mo.s a : Nat) : Int), .int .u8 ((Mo.c a : Nat) : Int), .int .u8 ((Mo.n a : Nat) : Int), .int .u8 ((Mo.d a : Nat) : Int)] 123)).heap.size = w.heap.size + 1 by simp] at hq
  obtain ⟨w1, hw1⟩ : ∃ w1, w1 = (w.alloc (.cells #[.int .u8 ((Mo.m a : Nat) : Int), .int .u16 ((Mo.s a : Nat) : Int), .int .u8 ((Mo.c a : Nat) : Int), .int .u8 ((Mo.n a : Nat) : Int), .int .u8 ((Mo.d a : Nat) : Int)] 123)).alloc (.cells #[.int .u8 0, .int .u16 0, .int .u8 0, .int .u8 0, .int .u8 0] 123) := ⟨_, rfl⟩
  rw [← hw1] at hq ⊢
  have HQ := Lib.hid (show Bq w w1 [(w.heap.size, #[.int .u8 ((Mo.m a : Nat) : Int), .int .u16 ((Mo.s a : Nat) : Int), .int .u8 ((Mo.c a : Nat) : Int), .int .u8 ((Mo.n a : Nat) : Int), .int .u8 ((Mo.d a : Nat) : Int)], 123), (w.heap.size + 1, #[.int .u8 0, .int .u16 0, .int .u8 0, .int .u8 0, .int .u8 0], 123)] from hq)
  clear hq hw1
  go_wp2_with fail
  go_at_call 120
  refine (in_any 0 _ (by decide)).mono ?_
  rintro e w2 ⟨rfl, hb⟩
  have hq := HQ.out.step hb
  have b1 := hq.of 1 rfl
  have hq2 := hq.put 1 rfl #[.int .u8 ((0 : Nat) : Int), .int .u16 ((0 : Nat) : Int), .int .u8 ((0 : Nat) : Int), .int .u8 ((0 : Nat) : Int), .int .u8 ((0 : Nat) : Int)]
  have b2 := hq2.of 1 rfl
  have HB := Lib.hid hq2.be
  have HB2 := Lib.hid b2
  clear hb hq hq2 b2 HQ
  go_wp2_with ((with_reducible show wpList _ _ _ (_ :: _) _ _); refine wpList_store_row rfl 123 _ _ rfl _ _ rfl rfl _ _ b1 (by exact size_mo) (by rfl) (by simp [Value.oneCell']) ?_)
  refine bodyPost_ret (results_cell_row rfl _ _ _ _ _ _ _ rfl HB2.out Try.underlying123 rfl (by exact size_mo)) rfl ?_
  exact ⟨rfl, HB.out⟩
set_option maxHeartbeats 400000 in
theorem RightM_any (a : Mo) (w : World) (ha : a.m < 256) : Calls Try.prog 66 #[.agg #[.int .u8 ((Mo.m a : Nat) : Int), .int .u16 ((Mo.s a : Nat) : Int), .int .u8 ((Mo.c a : Nat) : Int), .int .u8 ((Mo.n a : Nat) : Int), .int .u8 ((Mo.d a : Nat) : Int)]] w fun e w' => e = .returned (.bool (decide (a.m < 4))) ∧ Below w.heap.size w w' := by
  have HI := Lib.hid (isMode_any a.m · ha)
  go_enter Try.func66, Try.ntmps66
  go_wp2_with (go_at_call 117; refine (HI.out _).mono ?_; rintro e w' ⟨rfl, rfl⟩)
  go_ret
  exact ⟨rfl, by repeat' (first | (with_reducible exact Below.refl _ _) | (with_reducible assumption) | (with_reducible refine Below.setCell ?_ ?_ _) | (with_reducible refine Below.alloc ?_ ?_ _) | (with_reducible refine Below.drew ?_) | (with_reducible refine Below.drawsN ?_ _) | go_size)⟩
def calmB (a : Mo) (c : Cf) : Bool := decide (a.m = 1 ∧ 0 < c.calm ∧ c.calm ≤ a.c)
def darkB (a : Mo) (c : Cf) : Bool := decide (a.m = 3 ∧ 0 < c.lost ∧ c.lost ≤ a.d)
def lateB (a : Mo) (c : Cf) : Bool := decide ((a.m = 1 ∨ (a.m = 2 ∧ a.n < c.seen)) ∧ 0 < c.t a.m ∧ c.t a.m ≤ a.s)
def Cf.Ok (c : Cf) : Prop := c.calm < 256 ∧ c.seen < 256 ∧ c.lost < 256 ∧ ∀ k, k < 4 → c.t k < 65536
set_option maxRecDepth 100000 in
set_option maxHeartbeats 2000000 in
theorem calmed_any (a : Mo) (c : Cf) (w : World) : Calls Try.prog 119 #[.agg #[.int .u8 ((Mo.m a : Nat) : Int), .int .u16 ((Mo.s a : Nat) : Int), .int .u8 ((Mo.c a : Nat) : Int), .int .u8 ((Mo.n a : Nat) : Int), .int .u8 ((Mo.d a : Nat) : Int)], .agg #[.int .u8 ((Cf.calm c : Nat) : Int), .int .u8 ((Cf.seen c : Nat) : Int), .int .u8 ((Cf.lost c : Nat) : Int), .int .u16 ((Cf.t c 0 : Nat) : Int), .int .u16 ((Cf.t c 1 : Nat) : Int), .int .u16 ((Cf.t c 2 : Nat) : Int), .int .u16 ((Cf.t c 3 : Nat) : Int)]] w fun e w' => e = .returned (.bool (calmB a c)) ∧ Below w.heap.size w w' := by
  obtain ⟨B, hB⟩ : ∃ B, calmB a c = B := ⟨_, rfl⟩
  rw [hB]
  have HBB := Lib.hid hB
  clear hB
  skip
  have hq := ((Bq.nil w).new #[.int .u8 ((Mo.m a : Nat) : Int), .int .u16 ((Mo.s a : Nat) : Int), .int .u8 ((Mo.c a : Nat) : Int), .int .u8 ((Mo.n a : Nat) : Int), .int .u8 ((Mo.d a : Nat) : Int)] 123).new #[.int .u8 ((Cf.calm c : Nat) : Int), .int .u8 ((Cf.seen c : Nat) : Int), .int .u8 ((Cf.lost c : Nat) : Int), .int .u16 ((Cf.t c 0 : Nat) : Int), .int .u16 ((Cf.t c 1 : Nat) : Int), .int .u16 ((Cf.t c 2 : Nat) : Int), .int .u16 ((Cf.t c 3 : Nat) : Int)] 126
  go_enter Try.func119, Try.ntmps119
  go_upto_region 1 with fail
  rw [show (w.alloc (.cells #[.int .u8 ((Mo.m a : Nat) : Int), .int .u16 ((Mo.s a : Nat) : Int), .int .u8 ((Mo.c a : Nat) : Int), .int .u8 ((Mo.n a : Nat) : Int), .int .u8 ((Mo.d a : Nat) : Int)] 123)).heap.size = w.heap.size + 1 by simp] at hq
  obtain ⟨w1, hw1⟩ : ∃ w1, w1 = (w.alloc (.cells #[.int .u8 ((Mo.m a : Nat) : Int), .int .u16 ((Mo.s a : Nat) : Int), .int .u8 ((Mo.c a : Nat) : Int), .int .u8 ((Mo.n a : Nat) : Int), .int .u8 ((Mo.d a : Nat) : Int)] 123)).alloc (.cells #[.int .u8 ((Cf.calm c : Nat) : Int), .int .u8 ((Cf.seen c : Nat) : Int), .int .u8 ((Cf.lost c : Nat) : Int), .int .u16 ((Cf.t c 0 : Nat) : Int), .int .u16 ((Cf.t c 1 : Nat) : Int), .int .u16 ((Cf.t c 2 : Nat) : Int), .int .u16 ((Cf.t c 3 : Nat) : Int)] 126) := ⟨_, rfl⟩
  rw [← hw1] at hq ⊢
  have HQ := Lib.hid (show Bq w w1 [(w.heap.size, #[.int .u8 ((Mo.m a : Nat) : Int), .int .u16 ((Mo.s a : Nat) : Int), .int .u8 ((Mo.c a : Nat) : Int), .int .u8 ((Mo.n a : Nat) : Int), .int .u8 ((Mo.d a : Nat) : Int)], 123), (w.heap.size + 1, #[.int .u8 ((Cf.calm c : Nat) : Int), .int .u8 ((Cf.seen c : Nat) : Int), .int .u8 ((Cf.lost c : Nat) : Int), .int .u16 ((Cf.t c 0 : Nat) : Int), .int .u16 ((Cf.t c 1 : Nat) : Int), .int .u16 ((Cf.t c 2 : Nat) : Int), .int .u16 ((Cf.t c 3 : Nat) : Int)], 126)] from hq)
  clear hq hw1
  have b0 := HQ.out.of 0 rfl
  have b1 := HQ.out.of 1 rfl
  have c0 := cell_of_row _ _ 0 _ _ _ b0
  have c1 := cell_of_row _ _ 1 _ _ _ b0
  have c2 := cell_of_row _ _ 2 _ _ _ b0
  have c3 := cell_of_row _ _ 3 _ _ _ b0
  have c4 := cell_of_row _ _ 4 _ _ _ b0
  have d0 := cell_of_row _ _ 0 _ _ _ b1
  have d1 := cell_of_row _ _ 1 _ _ _ b1
  have d2 := cell_of_row _ _ 2 _ _ _ b1
  have d4 := cell_of_row _ _ 4 _ _ _ b1
  have d5 := cell_of_row _ _ 5 _ _ _ b1
  clear b0 b1
  rcases (by omega : a.m ≠ 1 ∨ (a.m = 1 ∧ c.calm = 0) ∨ (a.m = 1 ∧ 0 < c.calm ∧ a.c < c.calm) ∨ (a.m = 1 ∧ 0 < c.calm ∧ c.calm ≤ a.c)) with h | ⟨h, h0⟩ | ⟨h, h0, h1⟩ | ⟨h, h0, h1⟩
  · have hC : calmB a c = false := decide_eq_false (fun g => h g.1)
    obtain rfl : B = _ := HBB.out.symm.trans hC
    skip
    have HC := Lib.hid hC
    clear hC
    go_wp2
    go_ret
    refine ⟨?_, HQ.out.be⟩
    first | rfl | exact congrArg (fun b => Ending.returned (Value.bool b)) (by simp; omega)
  · have hC : calmB a c = false := decide_eq_false (fun g => by omega)
    obtain rfl : B = _ := HBB.out.symm.trans hC
    skip
    have HC := Lib.hid hC
    clear hC
    go_wp2
    go_ret
    refine ⟨?_, HQ.out.be⟩
    first | rfl | exact congrArg (fun b => Ending.returned (Value.bool b)) (by simp; omega)
  · have hC : calmB a c = false := decide_eq_false (fun g => by omega)
    obtain rfl : B = _ := HBB.out.symm.trans hC
    skip
    have HC := Lib.hid hC
    clear hC
    go_wp2
    go_ret
    refine ⟨?_, HQ.out.be⟩
    first | rfl | exact congrArg (fun b => Ending.returned (Value.bool b)) (by simp; omega)
  · have hC : calmB a c = true := decide_eq_true ⟨h, h0, h1⟩
    obtain rfl : B = _ := HBB.out.symm.trans hC
    skip
    have HC := Lib.hid hC
    clear hC
    go_wp2
    go_ret
    refine ⟨?_, HQ.out.be⟩
    first | rfl | exact congrArg (fun b => Ending.returned (Value.bool b)) (by simp; omega)
set_option maxRecDepth 100000 in
set_option maxHeartbeats 2000000 in
theorem darkened_any (a : Mo) (c : Cf) (w : World) : Calls Try.prog 121 #[.agg #[.int .u8 ((Mo.m a : Nat) : Int), .int .u16 ((Mo.s a : Nat) : Int), .int .u8 ((Mo.c a : Nat) : Int), .int .u8 ((Mo.n a : Nat) : Int), .int .u8 ((Mo.d a : Nat) : Int)], .agg #[.int .u8 ((Cf.calm c : Nat) : Int), .int .u8 ((Cf.seen c : Nat) : Int), .int .u8 ((Cf.lost c : Nat) : Int), .int .u16 ((Cf.t c 0 : Nat) : Int), .int .u16 ((Cf.t c 1 : Nat) : Int), .int .u16 ((Cf.t c 2 : Nat) : Int), .int .u16 ((Cf.t c 3 : Nat) : Int)]] w fun e w' => e = .returned (.bool (darkB a c)) ∧ Below w.heap.size w w' := by
  obtain ⟨B, hB⟩ : ∃ B, darkB a c = B := ⟨_, rfl⟩
  rw [hB]
  have HBB := Lib.hid hB
  clear hB
  skip
  have hq := ((Bq.nil w).new #[.int .u8 ((Mo.m a : Nat) : Int), .int .u16 ((Mo.s a : Nat) : Int), .int .u8 ((Mo.c a : Nat) : Int), .int .u8 ((Mo.n a : Nat) : Int), .int .u8 ((Mo.d a : Nat) : Int)] 123).new #[.int .u8 ((Cf.calm c : Nat) : Int), .int .u8 ((Cf.seen c : Nat) : Int), .int .u8 ((Cf.lost c : Nat) : Int), .int .u16 ((Cf.t c 0 : Nat) : Int), .int .u16 ((Cf.t c 1 : Nat) : Int), .int .u16 ((Cf.t c 2 : Nat) : Int), .int .u16 ((Cf.t c 3 : Nat) : Int)] 126
  go_enter Try.func121, Try.ntmps121
  go_upto_region 1 with fail
  rw [show (w.alloc (.cells #[.int .u8 ((Mo.m a : Nat) : Int), .int .u16 ((Mo.s a : Nat) : Int), .int .u8 ((Mo.c a : Nat) : Int), .int .u8 ((Mo.n a : Nat) : Int), .int .u8 ((Mo.d a : Nat) : Int)] 123)).heap.size = w.heap.size + 1 by simp] at hq
  obtain ⟨w1, hw1⟩ : ∃ w1, w1 = (w.alloc (.cells #[.int .u8 ((Mo.m a : Nat) : Int), .int .u16 ((Mo.s a : Nat) : Int), .int .u8 ((Mo.c a : Nat) : Int), .int .u8 ((Mo.n a : Nat) : Int), .int .u8 ((Mo.d a : Nat) : Int)] 123)).alloc (.cells #[.int .u8 ((Cf.calm c : Nat) : Int), .int .u8 ((Cf.seen c : Nat) : Int), .int .u8 ((Cf.lost c : Nat) : Int), .int .u16 ((Cf.t c 0 : Nat) : Int), .int .u16 ((Cf.t c 1 : Nat) : Int), .int .u16 ((Cf.t c 2 : Nat) : Int), .int .u16 ((Cf.t c 3 : Nat) : Int)] 126) := ⟨_, rfl⟩
  rw [← hw1] at hq ⊢
  have HQ := Lib.hid (show Bq w w1 [(w.heap.size, #[.int .u8 ((Mo.m a : Nat) : Int), .int .u16 ((Mo.s a : Nat) : Int), .int .u8 ((Mo.c a : Nat) : Int), .int .u8 ((Mo.n a : Nat) : Int), .int .u8 ((Mo.d a : Nat) : Int)], 123), (w.heap.size + 1, #[.int .u8 ((Cf.calm c : Nat) : Int), .int .u8 ((Cf.seen c : Nat) : Int), .int .u8 ((Cf.lost c : Nat) : Int), .int .u16 ((Cf.t c 0 : Nat) : Int), .int .u16 ((Cf.t c 1 : Nat) : Int), .int .u16 ((Cf.t c 2 : Nat) : Int), .int .u16 ((Cf.t c 3 : Nat) : Int)], 126)] from hq)
  clear hq hw1
  have b0 := HQ.out.of 0 rfl
  have b1 := HQ.out.of 1 rfl
  have c0 := cell_of_row _ _ 0 _ _ _ b0
  have c1 := cell_of_row _ _ 1 _ _ _ b0
  have c2 := cell_of_row _ _ 2 _ _ _ b0
  have c3 := cell_of_row _ _ 3 _ _ _ b0
  have c4 := cell_of_row _ _ 4 _ _ _ b0
  have d0 := cell_of_row _ _ 0 _ _ _ b1
  have d1 := cell_of_row _ _ 1 _ _ _ b1
  have d2 := cell_of_row _ _ 2 _ _ _ b1
  have d4 := cell_of_row _ _ 4 _ _ _ b1
  have d5 := cell_of_row _ _ 5 _ _ _ b1
  clear b0 b1
  rcases (by omega : a.m ≠ 3 ∨ (a.m = 3 ∧ c.lost = 0) ∨ (a.m = 3 ∧ 0 < c.lost ∧ a.d < c.lost) ∨ (a.m = 3 ∧ 0 < c.lost ∧ c.lost ≤ a.d)) with h | ⟨h, h0⟩ | ⟨h, h0, h1⟩ | ⟨h, h0, h1⟩
  · have hC : darkB a c = false := decide_eq_false (fun g => h g.1)
    obtain rfl : B = _ := HBB.out.symm.trans hC
    skip
    have HC := Lib.hid hC
    clear hC
    go_wp2
    go_ret
    refine ⟨?_, HQ.out.be⟩
    first | rfl | exact congrArg (fun b => Ending.returned (Value.bool b)) (by simp; omega)
  · have hC : darkB a c = false := decide_eq_false (fun g => by omega)
    obtain rfl : B = _ := HBB.out.symm.trans hC
    skip
    have HC := Lib.hid hC
    clear hC
    go_wp2
    go_ret
    refine ⟨?_, HQ.out.be⟩
    first | rfl | exact congrArg (fun b => Ending.returned (Value.bool b)) (by simp; omega)
  · have hC : darkB a c = false := decide_eq_false (fun g => by omega)
    obtain rfl : B = _ := HBB.out.symm.trans hC
    skip
    have HC := Lib.hid hC
    clear hC
    go_wp2
    go_ret
    refine ⟨?_, HQ.out.be⟩
    first | rfl | exact congrArg (fun b => Ending.returned (Value.bool b)) (by simp; omega)
  · have hC : darkB a c = true := decide_eq_true ⟨h, h0, h1⟩
    obtain rfl : B = _ := HBB.out.symm.trans hC
    skip
    have HC := Lib.hid hC
    clear hC
    go_wp2
    go_ret
    refine ⟨?_, HQ.out.be⟩
    first | rfl | exact congrArg (fun b => Ending.returned (Value.bool b)) (by simp; omega)
set_option maxRecDepth 100000 in
set_option maxHeartbeats 2000000 in
theorem late_any (a : Mo) (c : Cf) (w : World) (ha : a.Ok) (hc : c.Ok) : Calls Try.prog 122 #[.agg #[.int .u8 ((Mo.m a : Nat) : Int), .int .u16 ((Mo.s a : Nat) : Int), .int .u8 ((Mo.c a : Nat) : Int), .int .u8 ((Mo.n a : Nat) : Int), .int .u8 ((Mo.d a : Nat) : Int)], .agg #[.int .u8 ((Cf.calm c : Nat) : Int), .int .u8 ((Cf.seen c : Nat) : Int), .int .u8 ((Cf.lost c : Nat) : Int), .int .u16 ((Cf.t c 0 : Nat) : Int), .int .u16 ((Cf.t c 1 : Nat) : Int), .int .u16 ((Cf.t c 2 : Nat) : Int), .int .u16 ((Cf.t c 3 : Nat) : Int)]] w fun e w' => e = .returned (.bool (lateB a c)) ∧ Below w.heap.size w w' := by
  obtain ⟨B, hB⟩ : ∃ B, lateB a c = B := ⟨_, rfl⟩
  rw [hB]
  have HBB := Lib.hid hB
  clear hB
  skip
  have hq := ((Bq.nil w).new #[.int .u8 ((Mo.m a : Nat) : Int), .int .u16 ((Mo.s a : Nat) : Int), .int .u8 ((Mo.c a : Nat) : Int), .int .u8 ((Mo.n a : Nat) : Int), .int .u8 ((Mo.d a : Nat) : Int)] 123).new #[.int .u8 ((Cf.calm c : Nat) : Int), .int .u8 ((Cf.seen c : Nat) : Int), .int .u8 ((Cf.lost c : Nat) : Int), .int .u16 ((Cf.t c 0 : Nat) : Int), .int .u16 ((Cf.t c 1 : Nat) : Int), .int .u16 ((Cf.t c 2 : Nat) : Int), .int .u16 ((Cf.t c 3 : Nat) : Int)] 126
  go_enter Try.func122, Try.ntmps122
  go_upto_region 1 with fail
  rw [show (w.alloc (.cells #[.int .u8 ((Mo.m a : Nat) : Int), .int .u16 ((Mo.s a : Nat) : Int), .int .u8 ((Mo.c a : Nat) : Int), .int .u8 ((Mo.n a : Nat) : Int), .int .u8 ((Mo.d a : Nat) : Int)] 123)).heap.size = w.heap.size + 1 by simp] at hq
  obtain ⟨w1, hw1⟩ : ∃ w1, w1 = (w.alloc (.cells #[.int .u8 ((Mo.m a : Nat) : Int), .int .u16 ((Mo.s a : Nat) : Int), .int .u8 ((Mo.c a : Nat) : Int), .int .u8 ((Mo.n a : Nat) : Int), .int .u8 ((Mo.d a : Nat) : Int)] 123)).alloc (.cells #[.int .u8 ((Cf.calm c : Nat) : Int), .int .u8 ((Cf.seen c : Nat) : Int), .int .u8 ((Cf.lost c : Nat) : Int), .int .u16 ((Cf.t c 0 : Nat) : Int), .int .u16 ((Cf.t c 1 : Nat) : Int), .int .u16 ((Cf.t c 2 : Nat) : Int), .int .u16 ((Cf.t c 3 : Nat) : Int)] 126) := ⟨_, rfl⟩
  rw [← hw1] at hq ⊢
  have HQ := Lib.hid (show Bq w w1 [(w.heap.size, #[.int .u8 ((Mo.m a : Nat) : Int), .int .u16 ((Mo.s a : Nat) : Int), .int .u8 ((Mo.c a : Nat) : Int), .int .u8 ((Mo.n a : Nat) : Int), .int .u8 ((Mo.d a : Nat) : Int)], 123), (w.heap.size + 1, #[.int .u8 ((Cf.calm c : Nat) : Int), .int .u8 ((Cf.seen c : Nat) : Int), .int .u8 ((Cf.lost c : Nat) : Int), .int .u16 ((Cf.t c 0 : Nat) : Int), .int .u16 ((Cf.t c 1 : Nat) : Int), .int .u16 ((Cf.t c 2 : Nat) : Int), .int .u16 ((Cf.t c 3 : Nat) : Int)], 126)] from hq)
  clear hq hw1
  have b0 := HQ.out.of 0 rfl
  have b1 := HQ.out.of 1 rfl
  have c0 := cell_of_row _ _ 0 _ _ _ b0
  have c1 := cell_of_row _ _ 1 _ _ _ b0
  have c2 := cell_of_row _ _ 2 _ _ _ b0
  have c3 := cell_of_row _ _ 3 _ _ _ b0
  have c4 := cell_of_row _ _ 4 _ _ _ b0
  have d0 := cell_of_row _ _ 0 _ _ _ b1
  have d1 := cell_of_row _ _ 1 _ _ _ b1
  have d2 := cell_of_row _ _ 2 _ _ _ b1
  have d4 := cell_of_row _ _ 4 _ _ _ b1
  have d5 := cell_of_row _ _ 5 _ _ _ b1
  clear b0 b1
  rcases (by omega : a.m = 1 ∨ (a.m = 2) ∨ (a.m ≠ 1 ∧ a.m ≠ 2)) with h | h | ⟨h, h2⟩
  · have HO := Lib.hid (over_any a.s (c.t 1) · ha.2.1 (hc.2.2.2 1 (by decide)))
    have hC : lateB a c = ovr a.s (c.t 1) := by unfold lateB ovr; rw [h]; exact decide_eq_decide.2 (by simp)
    have HB := Lib.hid (show ovr a.s (c.t 1) = B from (HBB.out.symm.trans hC).symm)
    skip
    have HC := Lib.hid hC
    clear hC
    go_wp2_with (go_at_call 140; refine (HO.out _).mono ?_; rintro e w' ⟨rfl, rfl⟩; rw [HB.out])
    go_ret
    refine ⟨?_, HQ.out.be⟩
    first | rfl | exact congrArg (fun b => Ending.returned (Value.bool b)) (by simp; omega)
  · have HO := Lib.hid (over_any a.s (c.t 2) · ha.2.1 (hc.2.2.2 2 (by decide)))
    cases hb : ovr a.s (c.t 2)
    · have hC : lateB a c = false := decide_eq_false (fun g => by rw [h] at g; exact absurd (decide_eq_true g.2) (by unfold ovr at hb; rw [hb]; decide))
      obtain rfl : B = _ := HBB.out.symm.trans hC
      have HB := Lib.hid hb
      clear hb
      skip
      have HC := Lib.hid hC
      clear hC
      go_wp2_with (go_at_call 140; refine (HO.out _).mono ?_; rintro e w' ⟨rfl, rfl⟩; rw [HB.out])
      go_ret
      refine ⟨?_, HQ.out.be⟩
      first | rfl | exact congrArg (fun b => Ending.returned (Value.bool b)) (by simp; omega)
    · by_cases hn : a.n < c.seen
      · have hC : lateB a c = true := decide_eq_true (by rw [h]; exact ⟨.inr ⟨rfl, hn⟩, of_decide_eq_true hb⟩)
        obtain rfl : B = _ := HBB.out.symm.trans hC
        have HB := Lib.hid hb
        clear hb
        skip
        have HC := Lib.hid hC
        clear hC
        go_wp2_with (go_at_call 140; refine (HO.out _).mono ?_; rintro e w' ⟨rfl, rfl⟩; rw [HB.out])
        go_ret
        refine ⟨?_, HQ.out.be⟩
        first | rfl | exact congrArg (fun b => Ending.returned (Value.bool b)) (by simp; omega)
      · have hC : lateB a c = false := decide_eq_false (fun g => by omega)
        obtain rfl : B = _ := HBB.out.symm.trans hC
        have HB := Lib.hid hb
        clear hb
        skip
        have HC := Lib.hid hC
        clear hC
        go_wp2_with (go_at_call 140; refine (HO.out _).mono ?_; rintro e w' ⟨rfl, rfl⟩; rw [HB.out])
        go_ret
        refine ⟨?_, HQ.out.be⟩
        first | rfl | exact congrArg (fun b => Ending.returned (Value.bool b)) (by simp; omega)
  · have hC : lateB a c = false := decide_eq_false (fun g => by omega)
    obtain rfl : B = _ := HBB.out.symm.trans hC
    skip
    have HC := Lib.hid hC
    clear hC
    go_wp2
    go_ret
    refine ⟨?_, HQ.out.be⟩
    first | rfl | exact congrArg (fun b => Ending.returned (Value.bool b)) (by simp; omega)
set_option maxRecDepth 100000 in
set_option maxHeartbeats 2000000 in
theorem allows_any (a : Mo) (c : Cf) (m : Nat) (w : World) (hm : m < 4) (h0 : 0 < m) : Calls Try.prog 124 #[.agg #[.int .u8 ((Mo.m a : Nat) : Int), .int .u16 ((Mo.s a : Nat) : Int), .int .u8 ((Mo.c a : Nat) : Int), .int .u8 ((Mo.n a : Nat) : Int), .int .u8 ((Mo.d a : Nat) : Int)], .agg #[.int .u8 ((Cf.calm c : Nat) : Int), .int .u8 ((Cf.seen c : Nat) : Int), .int .u8 ((Cf.lost c : Nat) : Int), .int .u16 ((Cf.t c 0 : Nat) : Int), .int .u16 ((Cf.t c 1 : Nat) : Int), .int .u16 ((Cf.t c 2 : Nat) : Int), .int .u16 ((Cf.t c 3 : Nat) : Int)], .int .u8 (m : Nat)] w fun e w' => e = .returned (.bool (decide (mayM a c m))) ∧ Below w.heap.size w w' := by
  obtain ⟨B, hB⟩ : ∃ B, decide (mayM a c m) = B := ⟨_, rfl⟩
  rw [hB]
  have HBB := Lib.hid hB
  clear hB
  skip
  have hq := ((Bq.nil w).new #[.int .u8 ((Mo.m a : Nat) : Int), .int .u16 ((Mo.s a : Nat) : Int), .int .u8 ((Mo.c a : Nat) : Int), .int .u8 ((Mo.n a : Nat) : Int), .int .u8 ((Mo.d a : Nat) : Int)] 123).new #[.int .u8 ((Cf.calm c : Nat) : Int), .int .u8 ((Cf.seen c : Nat) : Int), .int .u8 ((Cf.lost c : Nat) : Int), .int .u16 ((Cf.t c 0 : Nat) : Int), .int .u16 ((Cf.t c 1 : Nat) : Int), .int .u16 ((Cf.t c 2 : Nat) : Int), .int .u16 ((Cf.t c 3 : Nat) : Int)] 126
  go_enter Try.func124, Try.ntmps124
  go_upto_region 1 with fail
  rw [show (w.alloc (.cells #[.int .u8 ((Mo.m a : Nat) : Int), .int .u16 ((Mo.s a : Nat) : Int), .int .u8 ((Mo.c a : Nat) : Int), .int .u8 ((Mo.n a : Nat) : Int), .int .u8 ((Mo.d a : Nat) : Int)] 123)).heap.size = w.heap.size + 1 by simp] at hq
  obtain ⟨w1, hw1⟩ : ∃ w1, w1 = (w.alloc (.cells #[.int .u8 ((Mo.m a : Nat) : Int), .int .u16 ((Mo.s a : Nat) : Int), .int .u8 ((Mo.c a : Nat) : Int), .int .u8 ((Mo.n a : Nat) : Int), .int .u8 ((Mo.d a : Nat) : Int)] 123)).alloc (.cells #[.int .u8 ((Cf.calm c : Nat) : Int), .int .u8 ((Cf.seen c : Nat) : Int), .int .u8 ((Cf.lost c : Nat) : Int), .int .u16 ((Cf.t c 0 : Nat) : Int), .int .u16 ((Cf.t c 1 : Nat) : Int), .int .u16 ((Cf.t c 2 : Nat) : Int), .int .u16 ((Cf.t c 3 : Nat) : Int)] 126) := ⟨_, rfl⟩
  rw [← hw1] at hq ⊢
  have HQ := Lib.hid (show Bq w w1 [(w.heap.size, #[.int .u8 ((Mo.m a : Nat) : Int), .int .u16 ((Mo.s a : Nat) : Int), .int .u8 ((Mo.c a : Nat) : Int), .int .u8 ((Mo.n a : Nat) : Int), .int .u8 ((Mo.d a : Nat) : Int)], 123), (w.heap.size + 1, #[.int .u8 ((Cf.calm c : Nat) : Int), .int .u8 ((Cf.seen c : Nat) : Int), .int .u8 ((Cf.lost c : Nat) : Int), .int .u16 ((Cf.t c 0 : Nat) : Int), .int .u16 ((Cf.t c 1 : Nat) : Int), .int .u16 ((Cf.t c 2 : Nat) : Int), .int .u16 ((Cf.t c 3 : Nat) : Int)], 126)] from hq)
  clear hq hw1
  have b0 := HQ.out.of 0 rfl
  have b1 := HQ.out.of 1 rfl
  have c0 := cell_of_row _ _ 0 _ _ _ b0
  have c1 := cell_of_row _ _ 1 _ _ _ b0
  have c2 := cell_of_row _ _ 2 _ _ _ b0
  have c3 := cell_of_row _ _ 3 _ _ _ b0
  have c4 := cell_of_row _ _ 4 _ _ _ b0
  have d0 := cell_of_row _ _ 0 _ _ _ b1
  have d1 := cell_of_row _ _ 1 _ _ _ b1
  have d2 := cell_of_row _ _ 2 _ _ _ b1
  have d4 := cell_of_row _ _ 4 _ _ _ b1
  have d5 := cell_of_row _ _ 5 _ _ _ b1
  clear b0 b1
  rcases (by omega : m = 1 ∨ m = 2 ∨ m = 3) with rfl | rfl | rfl
  · have hC : decide (mayM a c 1) = decide (a.m = 0) := decide_eq_decide.2 (by unfold mayM; omega)
    obtain rfl : B = _ := HBB.out.symm.trans hC
    clear hC
    go_wp2
    go_ret
    refine ⟨congrArg (fun b => Ending.returned (Value.bool b)) ?_, HQ.out.be⟩
    show ((a.m : Int) == 0) = _
    rw [Bool.eq_iff_iff]
    simp
  · rcases (by omega : a.m = 1 ∨ (a.m ≠ 1 ∧ a.m = 3) ∨ (a.m ≠ 1 ∧ a.m ≠ 3)) with h | ⟨h, h1⟩ | ⟨h, h1⟩
    · have hC : decide (mayM a c 2) = true := decide_eq_true (.inr (.inl ⟨rfl, .inl h⟩))
      obtain rfl : B = _ := HBB.out.symm.trans hC
      skip
      have HC := Lib.hid hC
      clear hC
      go_wp2
      go_ret
      refine ⟨?_, HQ.out.be⟩
      first | rfl | exact congrArg (fun b => Ending.returned (Value.bool b)) (by simp; omega)
    · have hC : decide (mayM a c 2) = true := decide_eq_true (.inr (.inl ⟨rfl, .inr h1⟩))
      obtain rfl : B = _ := HBB.out.symm.trans hC
      skip
      have HC := Lib.hid hC
      clear hC
      go_wp2
      go_ret
      refine ⟨?_, HQ.out.be⟩
      first | rfl | exact congrArg (fun b => Ending.returned (Value.bool b)) (by simp; omega)
    · have hC : decide (mayM a c 2) = false := decide_eq_false (fun g => by unfold mayM at g; omega)
      obtain rfl : B = _ := HBB.out.symm.trans hC
      skip
      have HC := Lib.hid hC
      clear hC
      go_wp2
      go_ret
      refine ⟨?_, HQ.out.be⟩
      first | rfl | exact congrArg (fun b => Ending.returned (Value.bool b)) (by simp; omega)
  · rcases (by omega : a.m ≠ 2 ∨ (a.m = 2 ∧ a.n < c.seen) ∨ (a.m = 2 ∧ c.seen ≤ a.n)) with h | ⟨h, h1⟩ | ⟨h, h1⟩
    · have hC : decide (mayM a c 3) = false := decide_eq_false (fun g => by unfold mayM at g; omega)
      obtain rfl : B = _ := HBB.out.symm.trans hC
      skip
      have HC := Lib.hid hC
      clear hC
      go_wp2
      go_ret
      refine ⟨?_, HQ.out.be⟩
      first | rfl | exact congrArg (fun b => Ending.returned (Value.bool b)) (by simp; omega)
    · have hC : decide (mayM a c 3) = false := decide_eq_false (fun g => by unfold mayM at g; omega)
      obtain rfl : B = _ := HBB.out.symm.trans hC
      skip
      have HC := Lib.hid hC
      clear hC
      go_wp2
      go_ret
      refine ⟨?_, HQ.out.be⟩
      first | rfl | exact congrArg (fun b => Ending.returned (Value.bool b)) (by simp; omega)
    · have hC : decide (mayM a c 3) = true := decide_eq_true (.inr (.inr ⟨rfl, h, h1⟩))
      obtain rfl : B = _ := HBB.out.symm.trans hC
      skip
      have HC := Lib.hid hC
      clear hC
      go_wp2
      go_ret
      refine ⟨?_, HQ.out.be⟩
      first | rfl | exact congrArg (fun b => Ending.returned (Value.bool b)) (by simp; omega)
set_option maxRecDepth 100000 in
set_option maxHeartbeats 2000000 in
theorem Bound_any (c : Cf) (w : World) (hc : c.Ok) : Calls Try.prog 73 #[.agg #[.int .u8 ((Cf.calm c : Nat) : Int), .int .u8 ((Cf.seen c : Nat) : Int), .int .u8 ((Cf.lost c : Nat) : Int), .int .u16 ((Cf.t c 0 : Nat) : Int), .int .u16 ((Cf.t c 1 : Nat) : Int), .int .u16 ((Cf.t c 2 : Nat) : Int), .int .u16 ((Cf.t c 3 : Nat) : Int)]] w fun e w' => e = .returned (.int .i64 ((c.t 1 + c.t 2 + c.calm : Nat) : Int)) ∧ Below w.heap.size w w' := by
  have h1 := hc.2.2.2 1 (by decide)
  have h2 := hc.2.2.2 2 (by decide)
  have h3 := hc.1
  go_enter Try.func73, Try.ntmps73
  go_wp2
  go_ret
  exact ⟨by go_num, by repeat' (first | (with_reducible exact Below.refl _ _) | (with_reducible assumption) | (with_reducible refine Below.setCell ?_ ?_ _) | (with_reducible refine Below.alloc ?_ ?_ _) | (with_reducible refine Below.drew ?_) | (with_reducible refine Below.drawsN ?_ _) | go_size)⟩
end Go.Proofs.Ytnjkpamjjdkmoaa
