/- Layer 18: three wheels. -/
import Derived.Test.YtioclbkgfbjpdaaSw4
namespace Go.Proofs.Ytioclbkgfbjpdaa
open Go.RowKit Go.Own Bs
set_option linter.unusedVariables false
set_option linter.unusedSimpArgs false
/-- How many units a set has. -/
def cntS (s : Nat) : Int := Lib.pop8 ((s / 256 : Nat) : Int) + Lib.pop8 ((s % 256 : Nat) : Int)
/-- With the next wheel, if it isn't bad. -/
def nextW (bad s : Nat) (x : Int) : Nat := s ||| (bit1 x &&& (65535 - bad))
theorem nextW_lt {bad s : Nat} {x : Int} (hs : s < 65536) : nextW bad s x < 65536 := Nat.or_lt_two_pow (n := 16) hs (Nat.lt_of_le_of_lt Nat.and_le_left (bit1_lt x))
/-- The first three, from wheel k on, m wheels. -/
def threeR (bad : Nat) (x : Nat → Int) : Nat → Nat → Nat → Nat × Bool
  | 0, _, _ => (0, false)
  | m + 1, k, s => if cntS (nextW bad s (x k)) = 3 then (nextW bad s (x k), true) else threeR bad x m (k + 1) (nextW bad s (x k))
@[go_sem] theorem ixfa (w : World) (a b c d : Int) : (Instr.index 93 (.agg #[.int .i64 a, .int .i64 b, .int .i64 c, .int .i64 d]) (.int .i64 0)).run Try.prog w = .ok (.int .i64 a) w := by kernel_rfl
@[go_sem] theorem ixfb (w : World) (a b c d : Int) : (Instr.index 93 (.agg #[.int .i64 a, .int .i64 b, .int .i64 c, .int .i64 d]) (.int .i64 1)).run Try.prog w = .ok (.int .i64 b) w := by kernel_rfl
@[go_sem] theorem ixfc (w : World) (a b c d : Int) : (Instr.index 93 (.agg #[.int .i64 a, .int .i64 b, .int .i64 c, .int .i64 d]) (.int .i64 2)).run Try.prog w = .ok (.int .i64 c) w := by kernel_rfl
@[go_sem] theorem ixfd (w : World) (a b c d : Int) : (Instr.index 93 (.agg #[.int .i64 a, .int .i64 b, .int .i64 c, .int .i64 d]) (.int .i64 3)).run Try.prog w = .ok (.int .i64 d) w := by kernel_rfl
theorem four_index (x : Nat → Int) {k : Nat} (hk : k < 4) (w : World) : (Instr.index 93 (.agg #[.int .i64 (x 0), .int .i64 (x 1), .int .i64 (x 2), .int .i64 (x 3)]) (.int .i64 (k : Nat))).run Try.prog w = .ok (.int .i64 (x k)) w := by
  have : k = 0 ∨ k = 1 ∨ k = 2 ∨ k = 3 := by omega
  rcases this with rfl | rfl | rfl | rfl
  · exact ixfa _ _ _ _ _
  · exact ixfb _ _ _ _ _
  · exact ixfc _ _ _ _ _
  · exact ixfd _ _ _ _ _
theorem size_four : (Try.prog.info? 93).map (·.size) = some 4 := by kernel_rfl
theorem rd_set {w : World} {g s : Nat} {t : TypeId} (h : w.heap[g]? = some (.cells #[.int .u16 (s : Nat)] t (0, 0))) : Rd w.heap.size w (some ⟨g, 0, none⟩) 1 1 (sv [s]) :=
  ⟨Nat.le_refl _, by unfold maxLen; omega, (fun h => by cases h), fun _ => ⟨_, _, rfl, box_lt h, fun i hi => by
    obtain rfl : i = 0 := by omega
    exact cell_of_row _ _ 0 _ _ _ h⟩⟩
set_option maxRecDepth 100000 in
set_option maxHeartbeats 4000000 in
theorem Three_any (x : Nat → Int) (bad : Nat) (w : World) (hb : bad < 65536) : Calls Try.prog 45 #[.agg #[.int .i64 (x 0), .int .i64 (x 1), .int .i64 (x 2), .int .i64 (x 3)], .int .u16 (bad : Nat)] w fun e w' => e = .returned (.tuple #[.int .u16 ((threeR bad x 4 0 0).1 : Nat), .bool (threeR bad x 4 0 0).2]) ∧ Below w.heap.size w w' := by
  have h0 := heap_alloc_new w (.cells #[.int .i64 (x 0), .int .i64 (x 1), .int .i64 (x 2), .int .i64 (x 3)] 93)
  have hb0 : Below w.heap.size w (w.alloc (.cells #[.int .i64 (x 0), .int .i64 (x 1), .int .i64 (x 2), .int .i64 (x 3)] 93)) := (Below.refl _ _).alloc (Nat.le_refl _) _
  go_enter Try.func45, Try.ntmps45
  go_upto_region 1 with fail
  obtain ⟨w1, hw1⟩ : ∃ w1, w1 = w.alloc (.cells #[.int .i64 (x 0), .int .i64 (x 1), .int .i64 (x 2), .int .i64 (x 3)] 93) := ⟨_, rfl⟩
  rw [← hw1] at h0 hb0 ⊢
  have HB := Lib.hid hb0
  clear hw1 hb0
  go_wp2_with ((with_reducible show wpList _ _ _ (_ :: _) _ _); refine wpList_load_row rfl 93 _ rfl _ rfl _ _ _ _ h0 Try.underlying93 rfl (by exact size_four) ?_; (try go_simp))
  clear h0
  obtain ⟨res, hres⟩ : ∃ res, res = threeR bad x 4 0 0 := ⟨_, rfl⟩
  go_loopw [6, 10] (fun v i wr => ∃ k s : Nat, k ≤ 4 ∧ s < 65536 ∧ i = .int .i64 k ∧ v = .int .u16 (s : Nat) ∧ res = threeR bad x (4 - k) k s ∧ Below w1.heap.size w1 wr) (fun _ i _ => 4 - (intOf i).toNat)
  case atStart => exact ⟨0, 0, Nat.zero_le _, by omega, rfl, rfl, hres, Below.refl _ _⟩
  case round =>
    obtain ⟨k, s, hk, hs, rfl, rfl, hr, hB⟩ := hrel
    have HBB := Lib.hid hB
    have HRES := Lib.hid hres
    clear hB hres
    by_cases hlt : k < 4
    · have hix := fun w => four_index x hlt w
      have e1 : threeR bad x (4 - k) k s = if cntS (nextW bad s (x k)) = 3 then (nextW bad s (x k), true) else threeR bad x (4 - (k + 1)) (k + 1) (nextW bad s (x k)) := by
        rw [show 4 - k = (4 - (k + 1)) + 1 by omega]
        rfl
      rw [e1] at hr
      obtain ⟨y, hy⟩ : ∃ y, y = x k := ⟨_, rfl⟩
      rw [← hy] at hix hr
      have ew : withS 0 [y] = bit1 y := by simp [withS]
      have hlt1 := bit1_lt y
      have hlt2 : bit1 y &&& (65535 - bad) < 65536 := Nat.lt_of_le_of_lt Nat.and_le_left hlt1
      have eo : orS s [bit1 y &&& (65535 - bad)] = nextW bad s y := by simp [orS, nextW]
      have hn := nextW_lt (bad := bad) (x := y) hs
      obtain ⟨t, ht⟩ : ∃ t, t = nextW bad s y := ⟨_, rfl⟩
      rw [← ht] at hr eo hn
      obtain ⟨q, hq⟩ : ∃ q, q = bit1 y &&& (65535 - bad) := ⟨_, rfl⟩
      rw [← hq] at eo hlt2
      have HR := Lib.hid hr
      have EW := Lib.hid ew
      have EO := Lib.hid eo
      have HQ := Lib.hid hq
      have hal : Below wr.heap.size wr (wr.alloc (.cells #[.int .i64 y] 3)) := (Below.refl _ _).alloc (Nat.le_refl _) _
      have HAL := Lib.hid hal
      clear hr ew eo ht hq e1 hal hy
      go_wp2_with fail
      go_at_call 46
      refine (Of_any _ 1 1 _ [y] _ rfl (Nat.le_refl _) (rd_oneS (heap_alloc_new _ _))).mono ?_
      rintro e w2 ⟨rfl, hb2⟩
      rw [EW.out]
      have HB2 := Lib.hid (HBB.out.trans ((HAL.out.trans (hb2.mono HAL.out.size)).mono HBB.out.size))
      clear hb2 HAL
      go_wp2_with fail
      go_at_call 73
      refine (Less_any (bit1 y) bad _ hlt1 hb).mono ?_
      rintro e w3 ⟨rfl, rfl⟩
      rw [← HQ.out]
      have hal : Below w2.heap.size w2 (w2.alloc (.cells #[.int .u16 (q : Nat)] 61)) := (Below.refl _ _).alloc (Nat.le_refl _) _
      have HB3 := Lib.hid (HB2.out.trans (hal.mono HB2.out.size))
      clear hal HB2
      go_wp2_with fail
      go_at_call 48
      refine (Or_any _ 1 1 _ s [q] _ hs rfl (fun z hz => by simp at hz; omega) (Nat.le_refl _) (rd_set (heap_alloc_new _ _))).mono ?_
      rintro e w4 ⟨rfl, rfl⟩
      rw [EO.out]
      go_wp2_with fail
      go_at_call 43
      refine (Count_any t _ hn).mono ?_
      rintro e w5 ⟨rfl, hb5⟩
      have HB5 := Lib.hid (HB3.out.trans (hb5.mono HB3.out.size))
      have hc : Lib.pop8 ((t / 256 : Nat) : Int) + Lib.pop8 ((t % 256 : Nat) : Int) = cntS t := rfl
      rw [hc]
      obtain ⟨cc, hcc⟩ : ∃ cc, cc = cntS t := ⟨_, rfl⟩
      have hr := HR.out
      rw [← hcc] at hr ⊢
      clear hb5 HB3 hc hcc HR
      by_cases h3 : cc = 3
      · rw [if_pos h3] at hr
        have h3' : (cc == 3) = true := by simp [h3]
        have HRR := Lib.hid hr
        clear h3 hr
        go_wp2_with fail
        refine bodyPost_ret (v := .tuple #[.int .u16 (t : Nat), .bool true]) (by simp [results, Try.results45, go_sem]) rfl ?_
        exact ⟨by rw [← HRES.out, HRR.out], HB.out.trans (HB5.out.mono HB.out.size)⟩
      · rw [if_neg h3] at hr
        have h3' : (cc == 3) = false := by simp [h3]
        have HRR := Lib.hid hr
        clear h3 hr
        go_wp2_with fail
        go_roundw
        case rel => exact ⟨k + 1, t, by omega, hn, by go_num, rfl, HRR.out, HB5.out⟩
        case measure => simp [intOf]; omega
    · obtain rfl : k = 4 := by omega
      have HR := Lib.hid hr
      clear hr
      go_wp2_with fail
      refine bodyPost_ret (v := .tuple #[.int .u16 0, .bool false]) (by simp [results, Try.results45, go_sem]) rfl ?_
      exact ⟨by rw [← HRES.out, HR.out]; rfl, HB.out.trans (HBB.out.mono HB.out.size)⟩
end Go.Proofs.Ytioclbkgfbjpdaa
