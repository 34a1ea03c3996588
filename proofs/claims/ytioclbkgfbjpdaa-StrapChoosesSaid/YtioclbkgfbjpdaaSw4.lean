/- Layer 18: a chain's units; the set of some units. -/
import Derived.Test.YtioclbkgfbjpdaaSw3
namespace Go.Proofs.Ytioclbkgfbjpdaa
open Go.RowKit Go.Own Bs
set_option linter.unusedVariables false
set_option linter.unusedSimpArgs false
set_option maxHeartbeats 1000000 in
theorem Of_any (a : Option Addr) (len cap n : Nat) (l : List Int) (w : World) (hl : l.length = len) (hn : n ≤ w.heap.size) (hr : Rd n w a len cap (iv l)) : Calls Try.prog 46 #[.slice a len cap] w fun e w' => e = .returned (.int .u16 (withS 0 l : Nat)) ∧ Below w.heap.size w w' := by
  have HW := Lib.hid (With_any a len cap n 0 l w (by omega) hl hn hr)
  clear hr
  go_enter Try.func46, Try.ntmps46
  go_wp2_with fail
  go_at_call 79
  refine HW.out.mono ?_
  rintro e w2 ⟨rfl, hb⟩
  have HB := Lib.hid hb
  clear hb
  go_wp2_with fail
  go_ret
  exact ⟨rfl, HB.out⟩
/-- The units of a chain's first k roles. -/
def unitsS (c : Nat → Int) : Nat → Nat
  | 0 => 0
  | k + 1 => unitsS c k ||| bit1 (c k)
theorem unitsS_lt (c : Nat → Int) : ∀ k, unitsS c k < 65536
  | 0 => by simp [unitsS]
  | k + 1 => Nat.or_lt_two_pow (n := 16) (unitsS_lt c k) (bit1_lt _)
@[go_sem] theorem ixca (w : World) (a b c d e f : Int) : (Instr.index 76 (.agg #[.int .i8 a, .int .i8 b, .int .i8 c, .int .i8 d, .int .i8 e, .int .i8 f]) (.int .i64 0)).run Try.prog w = .ok (.int .i8 a) w := by kernel_rfl
@[go_sem] theorem ixcb (w : World) (a b c d e f : Int) : (Instr.index 76 (.agg #[.int .i8 a, .int .i8 b, .int .i8 c, .int .i8 d, .int .i8 e, .int .i8 f]) (.int .i64 1)).run Try.prog w = .ok (.int .i8 b) w := by kernel_rfl
@[go_sem] theorem ixcc (w : World) (a b c d e f : Int) : (Instr.index 76 (.agg #[.int .i8 a, .int .i8 b, .int .i8 c, .int .i8 d, .int .i8 e, .int .i8 f]) (.int .i64 2)).run Try.prog w = .ok (.int .i8 c) w := by kernel_rfl
@[go_sem] theorem ixcd (w : World) (a b c d e f : Int) : (Instr.index 76 (.agg #[.int .i8 a, .int .i8 b, .int .i8 c, .int .i8 d, .int .i8 e, .int .i8 f]) (.int .i64 3)).run Try.prog w = .ok (.int .i8 d) w := by kernel_rfl
@[go_sem] theorem ixce (w : World) (a b c d e f : Int) : (Instr.index 76 (.agg #[.int .i8 a, .int .i8 b, .int .i8 c, .int .i8 d, .int .i8 e, .int .i8 f]) (.int .i64 4)).run Try.prog w = .ok (.int .i8 e) w := by kernel_rfl
@[go_sem] theorem ixcf (w : World) (a b c d e f : Int) : (Instr.index 76 (.agg #[.int .i8 a, .int .i8 b, .int .i8 c, .int .i8 d, .int .i8 e, .int .i8 f]) (.int .i64 5)).run Try.prog w = .ok (.int .i8 f) w := by kernel_rfl
theorem ch_index (c : Nat → Int) {k : Nat} (hk : k < 6) (w : World) : (Instr.index 76 (.agg #[.int .i8 (c 0), .int .i8 (c 1), .int .i8 (c 2), .int .i8 (c 3), .int .i8 (c 4), .int .i8 (c 5)]) (.int .i64 (k : Nat))).run Try.prog w = .ok (.int .i8 (c k)) w := by
  have : k = 0 ∨ k = 1 ∨ k = 2 ∨ k = 3 ∨ k = 4 ∨ k = 5 := by omega
  rcases this with rfl | rfl | rfl | rfl | rfl | rfl
  · exact ixca _ _ _ _ _ _ _
  · exact ixcb _ _ _ _ _ _ _
  · exact ixcc _ _ _ _ _ _ _
  · exact ixcd _ _ _ _ _ _ _
  · exact ixce _ _ _ _ _ _ _
  · exact ixcf _ _ _ _ _ _ _
theorem rd_oneS {w : World} {g : Nat} {x : Int} {t : TypeId} (h : w.heap[g]? = some (.cells #[.int .i64 x] t (0, 0))) : Rd w.heap.size w (some ⟨g, 0, none⟩) 1 1 (iv [x]) :=
  ⟨Nat.le_refl _, by unfold maxLen; omega, (fun h => by cases h), fun _ => ⟨_, _, rfl, box_lt h, fun i hi => by
    obtain rfl : i = 0 := by omega
    exact cell_of_row _ _ 0 _ _ _ h⟩⟩
set_option maxRecDepth 100000 in
set_option maxHeartbeats 2000000 in
theorem Units_any (c : Nat → Int) (w : World) (hc : ∀ k, k < 6 → -128 ≤ c k ∧ c k < 128) : Calls Try.prog 37 #[.agg #[.int .i8 (c 0), .int .i8 (c 1), .int .i8 (c 2), .int .i8 (c 3), .int .i8 (c 4), .int .i8 (c 5)]] w fun e w' => e = .returned (.int .u16 (unitsS c 6 : Nat)) ∧ Below w.heap.size w w' := by
  have h0 := heap_alloc_new w (.cells #[.int .i8 (c 0), .int .i8 (c 1), .int .i8 (c 2), .int .i8 (c 3), .int .i8 (c 4), .int .i8 (c 5)] 76)
  have hb0 : Below w.heap.size w (w.alloc (.cells #[.int .i8 (c 0), .int .i8 (c 1), .int .i8 (c 2), .int .i8 (c 3), .int .i8 (c 4), .int .i8 (c 5)] 76)) := (Below.refl _ _).alloc (Nat.le_refl _) _
  go_enter Try.func37, Try.ntmps37
  go_upto_region 1 with fail
  obtain ⟨w1, hw1⟩ : ∃ w1, w1 = w.alloc (.cells #[.int .i8 (c 0), .int .i8 (c 1), .int .i8 (c 2), .int .i8 (c 3), .int .i8 (c 4), .int .i8 (c 5)] 76) := ⟨_, rfl⟩
  rw [← hw1] at h0 hb0 ⊢
  have HB := Lib.hid hb0
  clear hw1 hb0
  go_wp2_with (((with_reducible show wpList _ _ _ (_ :: _) _ _); refine wpList_load_row rfl 76 _ rfl _ rfl _ _ _ _ h0 Try.underlying76 rfl (by exact size_ch) ?_; (try go_simp)))
  clear h0
  go_loopw [3, 7] (fun v i wr => ∃ k : Nat, k ≤ 6 ∧ i = .int .i64 k ∧ v = .int .u16 (unitsS c k : Nat) ∧ Below w1.heap.size w1 wr) (fun _ i _ => 6 - (intOf i).toNat)
  case atStart => exact ⟨0, Nat.zero_le _, rfl, rfl, Below.refl _ _⟩
  case round =>
    obtain ⟨k, hk, rfl, rfl, hB⟩ := hrel
    have HBB := Lib.hid hB
    clear hB
    by_cases hlt : k < 6
    · have hix := fun w => ch_index c hlt w
      have e1 : unitsS c (k + 1) = unitsS c k ||| bit1 (c k) := rfl
      have hs := unitsS_lt c k
      obtain ⟨x0, x1⟩ := hc k hlt
      obtain ⟨x, hx⟩ : ∃ x, x = c k := ⟨_, rfl⟩
      obtain ⟨s, hs'⟩ : ∃ s, s = unitsS c k := ⟨_, rfl⟩
      rw [← hx] at hix e1 x0 x1
      rw [← hs'] at e1 hs ⊢
      have e2 : withS s [x] = unitsS c (k + 1) := by rw [e1]; simp [withS]
      have hal : Below wr.heap.size wr (wr.alloc (.cells #[.int .i64 x] 3)) := (Below.refl _ _).alloc (Nat.le_refl _) _
      have E2 := Lib.hid e2
      have HAL := Lib.hid hal
      clear e1 e2 hal hx hs'
      go_wp2_with fail
      go_at_call 79
      refine (With_any _ 1 1 _ s [x] _ hs rfl (Nat.le_refl _) (rd_oneS (heap_alloc_new _ _))).mono ?_
      rintro e w2 ⟨rfl, hb⟩
      rw [E2.out]
      have hb2 := HAL.out.trans (hb.mono HAL.out.size)
      have HB2 := Lib.hid (HBB.out.trans (hb2.mono HBB.out.size))
      clear hb hb2
      go_wp2_with fail
      go_roundw
      case rel => exact ⟨k + 1, by omega, by go_num, rfl, HB2.out⟩
      case measure => simp [intOf]; omega
    · obtain rfl : k = 6 := by omega
      go_wp2_with fail
      go_ret
      exact ⟨rfl, HB.out.trans (HBB.out.mono HB.out.size)⟩
end Go.Proofs.Ytioclbkgfbjpdaa
