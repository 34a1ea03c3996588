/- Plants: which units are so. -/
import Derived.Test.YtkgeeohgfbacaaaPlC
import Derived.Test.YtkgeeohgfbacaaaBs
namespace Go.Proofs.Ytkgeeohgfbacaaa
open Go.RowKit Go.Own
set_option linter.unusedVariables false
set_option linter.unusedSimpArgs false
/-- The set of those that are so. -/
def setN (f : Nat → Bool) : Nat → Nat
  | 0 => 0
  | n + 1 => if f n = true then setN f n ||| Bs.bit1 (n : Nat) else setN f n
theorem setN_lt (f : Nat → Bool) : ∀ n, setN f n < 65536
  | 0 => by unfold setN; omega
  | n + 1 => by
    unfold setN
    split
    · exact Nat.or_lt_two_pow (n := 16) (setN_lt f n) (Bs.bit1_lt _)
    · exact setN_lt f n
theorem tsz (h : 88 < Try.prog.types.size) : (Try.prog.types[88]'h).size = 3 := by kernel_rfl
set_option maxRecDepth 100000 in
set_option maxHeartbeats 1000000 in
theorem plost_at (s l b wt tol : Int) (w : World) : Calls Try.prog 101 #[.agg #[.int .u8 s, .int .u8 l, .int .u8 b, .int .u8 wt, .int .u8 tol]] w fun e w' => e = .returned (.bool (s == 3)) ∧ Below w.heap.size w w' := by
  go_enter Try.func101, Try.ntmps101
  go_wp2
  go_ret
  exact ⟨rfl, by repeat' (first | (with_reducible exact Below.refl _ _) | (with_reducible assumption) | (with_reducible refine Below.setCell ?_ ?_ _) | (with_reducible refine Below.alloc ?_ ?_ _) | (with_reducible refine Below.drew ?_) | (with_reducible refine Below.drawsN ?_ _) | go_size)⟩
theorem rd_one (w : World) (i : Nat) (t : TypeId) : Rd (w.alloc (.cells #[.int .i64 ((i : Nat) : Int)] t)).heap.size (w.alloc (.cells #[.int .i64 ((i : Nat) : Int)] t)) (some ⟨w.heap.size, 0, none⟩) 1 1 (Bs.iv [((i : Nat) : Int)]) :=
  ⟨Nat.le_refl _, by unfold maxLen; omega, fun h => (by cases h), fun _ => ⟨w.heap.size, 0, rfl, by simp, fun j hj => by
    obtain rfl : j = 0 := by omega
    exact cell_of_row _ _ 0 _ _ _ (heap_alloc_new _ _)⟩⟩
/- #1 the method's call, #2 its contract over (p.u k), #3 is it so: a Bool of k -/
set_option maxRecDepth 100000 in
set_option maxHeartbeats 4000000 in
theorem whichWorks (p : Pl) (w : World) (f : Nat → Bool) (hn : p.n ≤ 16) (hf : ∀ k s l b, p.u k = Un.mk s l b → f k = (s == 2)) : Calls Try.prog 96 #[.agg p.cs, .func (.methodOf 92 "Works") #[] #[]] w fun e w' => e = .returned (.int .u16 (setN f p.n : Nat)) ∧ Below w.heap.size w w' := by
  skip
  have HP0 := PlB.new w p
  have c0 := HP0.cellC
  have H0 := Lib.hid (And.intro HP0 ((Below.refl w.heap.size w).alloc (Nat.le_refl _) (.cells p.cs 95)))
  clear HP0
  go_enter Try.func96, Try.ntmps96
  go_wp2_with fail
  obtain ⟨g, hg⟩ : ∃ g, g = w.heap.size := ⟨_, rfl⟩
  obtain ⟨ws, hws⟩ : ∃ ws, ws = w.alloc (.cells p.cs 95) := ⟨_, rfl⟩
  rw [← hws, ← hg] at H0
  rw [← hws, ← hg]
  have HG := Lib.hid hg
  clear hws hg c0
  go_loopw [5, 9] (fun v i wr => ∃ k : Nat, k ≤ p.n ∧ i = .int .i64 k ∧ v = .int .u16 (setN f k : Nat) ∧ PlB wr g p ∧ Below g w wr) (fun _ i _ => p.n - (intOf i).toNat)
  case atStart => exact ⟨0, Nat.zero_le _, rfl, rfl, H0.out⟩
  case round =>
    obtain ⟨k, hk, rfl, rfl, hp, hb⟩ := hrel
    clear H0
    by_cases hlt : k < p.n
    · have hk16 : k < 16 := by omega
      have d0 := hp.cellS hk16
      have d1 := hp.cellL hk16
      have d2 := hp.cellB hk16
      have d3 := hp.cellW hk16
      have d4 := hp.cellT hk16
      obtain ⟨s, l, b, hu⟩ : ∃ s l b, p.u k = Un.mk s l b := ⟨_, _, _, rfl⟩
      obtain ⟨wt, hw⟩ : ∃ t, p.wt k = t := ⟨_, rfl⟩
      obtain ⟨tol, ht⟩ : ∃ t, p.tol k = t := ⟨_, rfl⟩
      rw [hu] at d0 d1 d2
      rw [hw] at d3
      rw [ht] at d4
      obtain ⟨x, hx⟩ : ∃ x, x = setN f k := ⟨_, rfl⟩
      rw [← hx]
      have hxl : x < 65536 := by rw [hx]; exact setN_lt f k
      have hfs : f k = (s == 2) := hf k s l b hu
      have HX := Lib.hid (And.intro hx hfs)
      have HP := Lib.hid hp
      have HB := Lib.hid hb
      clear hu hw ht hx hfs hp hb
      go_wp2_with fail
      (go_at_call 98; simp only [tsz, List.take_succ_cons, List.take_zero])
      refine (Works_at s l b _).mono ?_
      rintro e w2 ⟨rfl, hb2⟩
      have HP2 := Lib.hid (HP.out.below hb2 (Nat.le_refl _))
      have HB2 := Lib.hid (HB.out.trans (hb2.mono (by have := HB.out.size; rw [HG.out]; exact this)))
      clear hb2 HP HB d0 d1 d2 d3 d4
      cases hh : (s == 2)
      · have HX2 := Lib.hid (show x = setN f (k + 1) by unfold setN; rw [HX.out.2, hh, if_neg (by decide)]; exact HX.out.1)
        clear hh
        go_wp2_with fail
        go_roundw
        case rel => exact ⟨k + 1, by omega, by go_num, by rw [HX2.out], HP2.out, HB2.out⟩
        case measure => simp [intOf]; omega
      · have HX2 := Lib.hid (show Bs.withS x [((k : Nat) : Int)] = setN f (k + 1) by unfold setN; rw [HX.out.2, hh, if_pos rfl, ← HX.out.1]; rfl)
        have hr1 := rd_one w2 k 3
        have HR1 := Lib.hid hr1
        clear hh hr1
        go_wp2_with fail
        go_at_call 95
        refine (Bs.With_any _ 1 1 _ x [((k : Nat) : Int)] _ hxl rfl (Nat.le_refl _) HR1.out).mono ?_
        rintro e w3 ⟨rfl, hb3⟩
        have hal : Below w2.heap.size w2 (w2.alloc (.cells #[.int .i64 ((k : Nat) : Int)] 3)) := (Below.refl _ _).alloc (Nat.le_refl _) _
        have hb4 := hal.trans (hb3.mono (by simp))
        have HP3 := Lib.hid (HP2.out.below hb4 (Nat.le_refl _))
        have HB3 := Lib.hid (HB2.out.trans (hb4.mono (by have := HB2.out.size; rw [HG.out]; exact this)))
        clear hal hb3 hb4 HP2 HB2 HR1
        go_wp2_with fail
        go_roundw
        case rel => exact ⟨k + 1, by omega, by go_num, by rw [HX2.out], HP3.out, HB3.out⟩
        case measure => simp [intOf]; omega
    · obtain rfl : k = p.n := by omega
      have HB := Lib.hid hb
      clear hp hb
      go_wp2
      go_ret
      rw [← HG.out]
      exact ⟨rfl, HB.out⟩
set_option maxRecDepth 100000 in
set_option maxHeartbeats 4000000 in
theorem whichPowered (p : Pl) (w : World) (f : Nat → Bool) (hn : p.n ≤ 16) (hf : ∀ k s l b, p.u k = Un.mk s l b → f k = (decide (s = 1) || decide (s = 2))) : Calls Try.prog 96 #[.agg p.cs, .func (.methodOf 92 "Powered") #[] #[]] w fun e w' => e = .returned (.int .u16 (setN f p.n : Nat)) ∧ Below w.heap.size w w' := by
  skip
  have HP0 := PlB.new w p
  have c0 := HP0.cellC
  have H0 := Lib.hid (And.intro HP0 ((Below.refl w.heap.size w).alloc (Nat.le_refl _) (.cells p.cs 95)))
  clear HP0
  go_enter Try.func96, Try.ntmps96
  go_wp2_with fail
  obtain ⟨g, hg⟩ : ∃ g, g = w.heap.size := ⟨_, rfl⟩
  obtain ⟨ws, hws⟩ : ∃ ws, ws = w.alloc (.cells p.cs 95) := ⟨_, rfl⟩
  rw [← hws, ← hg] at H0
  rw [← hws, ← hg]
  have HG := Lib.hid hg
  clear hws hg c0
  go_loopw [5, 9] (fun v i wr => ∃ k : Nat, k ≤ p.n ∧ i = .int .i64 k ∧ v = .int .u16 (setN f k : Nat) ∧ PlB wr g p ∧ Below g w wr) (fun _ i _ => p.n - (intOf i).toNat)
  case atStart => exact ⟨0, Nat.zero_le _, rfl, rfl, H0.out⟩
  case round =>
    obtain ⟨k, hk, rfl, rfl, hp, hb⟩ := hrel
    clear H0
    by_cases hlt : k < p.n
    · have hk16 : k < 16 := by omega
      have d0 := hp.cellS hk16
      have d1 := hp.cellL hk16
      have d2 := hp.cellB hk16
      have d3 := hp.cellW hk16
      have d4 := hp.cellT hk16
      obtain ⟨s, l, b, hu⟩ : ∃ s l b, p.u k = Un.mk s l b := ⟨_, _, _, rfl⟩
      obtain ⟨wt, hw⟩ : ∃ t, p.wt k = t := ⟨_, rfl⟩
      obtain ⟨tol, ht⟩ : ∃ t, p.tol k = t := ⟨_, rfl⟩
      rw [hu] at d0 d1 d2
      rw [hw] at d3
      rw [ht] at d4
      obtain ⟨x, hx⟩ : ∃ x, x = setN f k := ⟨_, rfl⟩
      rw [← hx]
      have hxl : x < 65536 := by rw [hx]; exact setN_lt f k
      have hfs : f k = (decide (s = 1) || decide (s = 2)) := hf k s l b hu
      have HX := Lib.hid (And.intro hx hfs)
      have HP := Lib.hid hp
      have HB := Lib.hid hb
      clear hu hw ht hx hfs hp hb
      go_wp2_with fail
      (go_at_call 97; simp only [tsz, List.take_succ_cons, List.take_zero])
      refine (Powered_at s l b _ _ rfl).mono ?_
      rintro e w2 ⟨rfl, hb2⟩
      have HP2 := Lib.hid (HP.out.below hb2 (Nat.le_refl _))
      have HB2 := Lib.hid (HB.out.trans (hb2.mono (by have := HB.out.size; rw [HG.out]; exact this)))
      clear hb2 HP HB d0 d1 d2 d3 d4
      cases hh : (decide (s = 1) || decide (s = 2))
      · have HX2 := Lib.hid (show x = setN f (k + 1) by unfold setN; rw [HX.out.2, hh, if_neg (by decide)]; exact HX.out.1)
        clear hh
        go_wp2_with fail
        go_roundw
        case rel => exact ⟨k + 1, by omega, by go_num, by rw [HX2.out], HP2.out, HB2.out⟩
        case measure => simp [intOf]; omega
      · have HX2 := Lib.hid (show Bs.withS x [((k : Nat) : Int)] = setN f (k + 1) by unfold setN; rw [HX.out.2, hh, if_pos rfl, ← HX.out.1]; rfl)
        have hr1 := rd_one w2 k 3
        have HR1 := Lib.hid hr1
        clear hh hr1
        go_wp2_with fail
        go_at_call 95
        refine (Bs.With_any _ 1 1 _ x [((k : Nat) : Int)] _ hxl rfl (Nat.le_refl _) HR1.out).mono ?_
        rintro e w3 ⟨rfl, hb3⟩
        have hal : Below w2.heap.size w2 (w2.alloc (.cells #[.int .i64 ((k : Nat) : Int)] 3)) := (Below.refl _ _).alloc (Nat.le_refl _) _
        have hb4 := hal.trans (hb3.mono (by simp))
        have HP3 := Lib.hid (HP2.out.below hb4 (Nat.le_refl _))
        have HB3 := Lib.hid (HB2.out.trans (hb4.mono (by have := HB2.out.size; rw [HG.out]; exact this)))
        clear hal hb3 hb4 HP2 HB2 HR1
        go_wp2_with fail
        go_roundw
        case rel => exact ⟨k + 1, by omega, by go_num, by rw [HX2.out], HP3.out, HB3.out⟩
        case measure => simp [intOf]; omega
    · obtain rfl : k = p.n := by omega
      have HB := Lib.hid hb
      clear hp hb
      go_wp2
      go_ret
      rw [← HG.out]
      exact ⟨rfl, HB.out⟩
/- #1 the function, #2 its which -/
set_option maxRecDepth 100000 in
set_option maxHeartbeats 1000000 in
theorem pWorks (p : Pl) (w : World) (f : Nat → Bool) (x : Nat) (hx : setN f p.n = x) (hn : p.n ≤ 16) (hf : ∀ k s l b, p.u k = Un.mk s l b → f k = (s == 2)) : Calls Try.prog 47 #[.agg p.cs] w fun e w' => e = .returned (.int .u16 (x : Nat)) ∧ Below w.heap.size w w' := by
  skip
  have hw := whichWorks p (w.alloc (.cells p.cs 95)) f hn hf
  rw [hx] at hw
  have HW := Lib.hid hw
  clear hw hx hf
  have HP := PlB.new w p
  have hb0 := (Below.refl w.heap.size w).alloc (Nat.le_refl _) (.cells p.cs 95)
  go_enter Try.func47, Try.ntmps47
  go_wp2_with (refine wpList_load_row rfl 95 _ rfl _ rfl _ _ _ _ HP Try.underlying95 rfl (by exact size_pl p) ?_; (try go_simp))
  go_at_call 96
  refine (HW.out).mono ?_
  rintro e w1 ⟨rfl, hb⟩
  have HB := Lib.hid (hb0.trans (hb.mono (by simp)))
  clear hb hb0 HP
  go_wp2
  go_ret
  exact ⟨rfl, HB.out⟩
set_option maxRecDepth 100000 in
set_option maxHeartbeats 1000000 in
theorem pPowered (p : Pl) (w : World) (f : Nat → Bool) (x : Nat) (hx : setN f p.n = x) (hn : p.n ≤ 16) (hf : ∀ k s l b, p.u k = Un.mk s l b → f k = (decide (s = 1) || decide (s = 2))) : Calls Try.prog 46 #[.agg p.cs] w fun e w' => e = .returned (.int .u16 (x : Nat)) ∧ Below w.heap.size w w' := by
  skip
  have hw := whichPowered p (w.alloc (.cells p.cs 95)) f hn hf
  rw [hx] at hw
  have HW := Lib.hid hw
  clear hw hx hf
  have HP := PlB.new w p
  have hb0 := (Below.refl w.heap.size w).alloc (Nat.le_refl _) (.cells p.cs 95)
  go_enter Try.func46, Try.ntmps46
  go_wp2_with (refine wpList_load_row rfl 95 _ rfl _ rfl _ _ _ _ HP Try.underlying95 rfl (by exact size_pl p) ?_; (try go_simp))
  go_at_call 96
  refine (HW.out).mono ?_
  rintro e w1 ⟨rfl, hb⟩
  have HB := Lib.hid (hb0.trans (hb.mono (by simp)))
  clear hb hb0 HP
  go_wp2
  go_ret
  exact ⟨rfl, HB.out⟩
theorem setN_none {f : Nat → Bool} {n : Nat} (h : ∀ i, i < n → f i = false) : setN f n = 0 := by
  induction n with
  | zero => rfl
  | succ n ih => unfold setN; rw [if_neg (by rw [h n (by omega)]; decide)]; exact ih fun i hi => h i (by omega)
end Go.Proofs.Ytkgeeohgfbacaaa
