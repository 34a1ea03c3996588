/- Plants: which units are lost. -/
import Derived.Test.YtkgeeohgfbacaaaPlW
namespace Go.Proofs.Ytkgeeohgfbacaaa
open Go.RowKit Go.Own
set_option linter.unusedVariables false
set_option linter.unusedSimpArgs false
/- #1 the method's call, #2 its contract over (p.u k), #3 is it so: a Bool of k -/
set_option maxRecDepth 100000 in
set_option maxHeartbeats 4000000 in
theorem whichLost (p : Pl) (w : World) (f : Nat → Bool) (hn : p.n ≤ 16) (hf : ∀ k s l b, p.u k = Un.mk s l b → f k = (s == 3)) : Calls Try.prog 96 #[.agg p.cs, .func (.func 101) #[] #[]] w fun e w' => e = .returned (.int .u16 (setN f p.n : Nat)) ∧ Below w.heap.size w w' := by
  skip
  have HP0 := PlB.new w p
  have c0 := HP0.cellC
  have H0 := Lib.hid (And.intro HP0 ((Below.refl w.heap.size w).alloc (Nat.le_refl _) (.cells p.cs 95)))
  clear HP0
  go_enter Try.func96, Try.ntmps96
  go_wp2_with fail
  obtain ⟨g, hg⟩ : ∃ g, g = w.heap.size := ⟨_, rfl⟩
  obtain ⟨ws, hws⟩ : ∃ ws, ws = w.alloc (.cells p.cs 95) := ⟨_, rfl⟩
  rw [← hws, ← hg] at H0
  rw [← hws, ← hg]
  have HG := Lib.hid hg
  clear hws hg c0
  go_loopw [5, 9] (fun v i wr => ∃ k : Nat, k ≤ p.n ∧ i = .int .i64 k ∧ v = .int .u16 (setN f k : Nat) ∧ PlB wr g p ∧ Below g w wr) (fun _ i _ => p.n - (intOf i).toNat)
  case atStart => exact ⟨0, Nat.zero_le _, rfl, rfl, H0.out⟩
  case round =>
    obtain ⟨k, hk, rfl, rfl, hp, hb⟩ := hrel
    clear H0
    by_cases hlt : k < p.n
    · have hk16 : k < 16 := by omega
      have d0 := hp.cellS hk16
      have d1 := hp.cellL hk16
      have d2 := hp.cellB hk16
      have d3 := hp.cellW hk16
      have d4 := hp.cellT hk16
      obtain ⟨s, l, b, hu⟩ : ∃ s l b, p.u k = Un.mk s l b := ⟨_, _, _, rfl⟩
      obtain ⟨wt, hw⟩ : ∃ t, p.wt k = t := ⟨_, rfl⟩
      obtain ⟨tol, ht⟩ : ∃ t, p.tol k = t := ⟨_, rfl⟩
      rw [hu] at d0 d1 d2
      rw [hw] at d3
      rw [ht] at d4
      obtain ⟨x, hx⟩ : ∃ x, x = setN f k := ⟨_, rfl⟩
      rw [← hx]
      have hxl : x < 65536 := by rw [hx]; exact setN_lt f k
      have hfs : f k = (s == 3) := hf k s l b hu
      have HX := Lib.hid (And.intro hx hfs)
      have HP := Lib.hid hp
      have HB := Lib.hid hb
      clear hu hw ht hx hfs hp hb
      go_wp2_with fail
      go_at_call 101
      refine (plost_at s l b wt tol _).mono ?_
      rintro e w2 ⟨rfl, hb2⟩
      have HP2 := Lib.hid (HP.out.below hb2 (Nat.le_refl _))
      have HB2 := Lib.hid (HB.out.trans (hb2.mono (by have := HB.out.size; rw [HG.out]; exact this)))
      clear hb2 HP HB d0 d1 d2 d3 d4
      cases hh : (s == 3)
      · have HX2 := Lib.hid (show x = setN f (k + 1) by unfold setN; rw [HX.out.2, hh, if_neg (by decide)]; exact HX.out.1)
        clear hh
        go_wp2_with fail
        go_roundw
        case rel => exact ⟨k + 1, by omega, by go_num, by rw [HX2.out], HP2.out, HB2.out⟩
        case measure => simp [intOf]; omega
      · have HX2 := Lib.hid (show Bs.withS x [((k : Nat) : Int)] = setN f (k + 1) by unfold setN; rw [HX.out.2, hh, if_pos rfl, ← HX.out.1]; rfl)
        have hr1 := rd_one w2 k 3
        have HR1 := Lib.hid hr1
        clear hh hr1
        go_wp2_with fail
        go_at_call 95
        refine (Bs.With_any _ 1 1 _ x [((k : Nat) : Int)] _ hxl rfl (Nat.le_refl _) HR1.out).mono ?_
        rintro e w3 ⟨rfl, hb3⟩
        have hal : Below w2.heap.size w2 (w2.alloc (.cells #[.int .i64 ((k : Nat) : Int)] 3)) := (Below.refl _ _).alloc (Nat.le_refl _) _
        have hb4 := hal.trans (hb3.mono (by simp))
        have HP3 := Lib.hid (HP2.out.below hb4 (Nat.le_refl _))
        have HB3 := Lib.hid (HB2.out.trans (hb4.mono (by have := HB2.out.size; rw [HG.out]; exact this)))
        clear hal hb3 hb4 HP2 HB2 HR1
        go_wp2_with fail
        go_roundw
        case rel => exact ⟨k + 1, by omega, by go_num, by rw [HX2.out], HP3.out, HB3.out⟩
        case measure => simp [intOf]; omega
    · obtain rfl : k = p.n := by omega
      have HB := Lib.hid hb
      clear hp hb
      go_wp2
      go_ret
      rw [← HG.out]
      exact ⟨rfl, HB.out⟩
/- #1 the function, #2 its which -/
set_option maxRecDepth 100000 in
set_option maxHeartbeats 1000000 in
theorem pLost (p : Pl) (w : World) (f : Nat → Bool) (x : Nat) (hx : setN f p.n = x) (hn : p.n ≤ 16) (hf : ∀ k s l b, p.u k = Un.mk s l b → f k = (s == 3)) : Calls Try.prog 49 #[.agg p.cs] w fun e w' => e = .returned (.int .u16 (x : Nat)) ∧ Below w.heap.size w w' := by
  skip
  have hw := whichLost p (w.alloc (.cells p.cs 95)) f hn hf
  rw [hx] at hw
  have HW := Lib.hid hw
  clear hw hx hf
  have HP := PlB.new w p
  have hb0 := (Below.refl w.heap.size w).alloc (Nat.le_refl _) (.cells p.cs 95)
  go_enter Try.func49, Try.ntmps49
  go_wp2_with (refine wpList_load_row rfl 95 _ rfl _ rfl _ _ _ _ HP Try.underlying95 rfl (by exact size_pl p) ?_; (try go_simp))
  go_at_call 96
  refine (HW.out).mono ?_
  rintro e w1 ⟨rfl, hb⟩
  have HB := Lib.hid (hb0.trans (hb.mono (by simp)))
  clear hb hb0 HP
  go_wp2
  go_ret
  exact ⟨rfl, HB.out⟩
end Go.Proofs.Ytkgeeohgfbacaaa
