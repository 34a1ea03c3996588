/- Layer 22: the document's levels. -/
import Derived.Test.YtinaimacocgemaaFd3
namespace Go.Proofs.Ytinaimacocgemaa
open Go.RowKit Go.Own Bs
set_option linter.unusedVariables false
set_option linter.unusedSimpArgs false
theorem div_pow (inh k : Nat) : inh / 2 ^ k / 2 = inh / 2 ^ (k + 1) := by rw [Nat.div_div_eq_div_mul, Nat.pow_succ]
set_option maxHeartbeats 1000000 in
theorem rAllowed_any (inh l : Nat) (w : World) (hi : inh < 256) (h : l < 5) : Calls Try.prog 51 #[.int .u8 (inh : Nat), .int .i64 (l : Nat)] w fun e w' => e = .returned (.bool (al inh l)) ∧ w = w' := by
  go_enter Try.func51, Try.ntmps51
  go_wp2_with fail
  go_loopw [0, 5] (fun v0 v5 wr => ∃ k : Nat, k ≤ l ∧ v5 = .int .i64 (k : Nat) ∧ v0 = .int .u8 ((inh / 2 ^ k : Nat) : Int) ∧ w = wr) (fun _ v _ => l - (intOf v).toNat)
  case atStart => exact ⟨0, Nat.zero_le _, rfl, by simp, rfl⟩
  case round =>
    obtain ⟨k, hk, rfl, rfl, hw⟩ := hrel
    subst hw
    have hd := div_pow inh k
    obtain ⟨x, hx⟩ : ∃ x, x = inh / 2 ^ k := ⟨_, rfl⟩
    have hxb : x < 256 := by rw [hx]; exact Nat.lt_of_le_of_lt (Nat.div_le_self _ _) hi
    rw [← hx] at hd ⊢
    have HD := Lib.hid hd
    have HX := Lib.hid hx
    clear hd hx
    by_cases hlt : k < l
    · go_wp2
      go_roundw
      case rel => exact ⟨k + 1, by omega, by go_num, by rw [← HD.out]; go_num, by first | rfl | trivial⟩
      case measure => simp [intOf]; omega
    · obtain rfl : k = l := by omega
      have ha : al inh k = decide (x % 2 = 0) := by rw [al_of inh h, ← HX.out]
      rcases Nat.mod_two_eq_zero_or_one x with h2 | h2
      · rw [h2] at ha
        have hz : ((x : Int) % 2 == 0) = true := by rw [beq_iff_eq]; omega
        have HA := Lib.hid ha
        clear ha h2 hlt
        go_wp2
        go_ret
        exact ⟨by rw [HA.out]; rfl, rfl⟩
      · rw [h2] at ha
        have hz : ((x : Int) % 2 == 0) = false := by rw [beq_eq_false_iff_ne]; omega
        have HA := Lib.hid ha
        clear ha h2 hlt
        go_wp2
        go_ret
        exact ⟨by rw [HA.out]; rfl, rfl⟩
set_option maxHeartbeats 1000000 in
theorem rRight_any (l : Nat) (u : Int) (ev : Nat) (w : World) (h : l < 256) : Calls Try.prog 49 #[.agg #[.int .u8 ((l : Nat) : Int), .int .i64 u, .int .u8 ((ev : Nat) : Int)]] w fun e w' => e = .returned (.bool (rgt l u)) ∧ Below w.heap.size w w' := by
  unfold rgt
  by_cases h5 : l < 5
  · rw [decide_eq_true h5]
    rcases (by omega : u < -1 ∨ (-1 ≤ u ∧ u < 16) ∨ (-1 ≤ u ∧ ¬ u < 16)) with h1 | ⟨h1, h2⟩ | ⟨h1, h2⟩
    all_goals
      go_enter Try.func49, Try.ntmps49
      go_wp2
      go_ret
      exact ⟨congrArg (fun b => Ending.returned (.bool b)) (by simp; try omega), by repeat' (first | (with_reducible exact Below.refl _ _) | (with_reducible assumption) | (with_reducible refine Below.setCell ?_ ?_ _) | (with_reducible refine Below.alloc ?_ ?_ _) | (with_reducible refine Below.drew ?_) | (with_reducible refine Below.drawsN ?_ _) | go_size)⟩
  · rw [decide_eq_false h5]
    go_enter Try.func49, Try.ntmps49
    go_wp2
    go_ret
    exact ⟨rfl, by repeat' (first | (with_reducible exact Below.refl _ _) | (with_reducible assumption) | (with_reducible refine Below.setCell ?_ ?_ _) | (with_reducible refine Below.alloc ?_ ?_ _) | (with_reducible refine Below.drew ?_) | (with_reducible refine Below.drawsN ?_ _) | go_size)⟩
def lvI : Option Nat → Int
  | none => -1
  | some k => k
theorem fi_at (L : Nat → Nat) {k : Nat} (hk : k < 5) : (#[.int .u8 ((L 0 : Nat) : Int), .int .u8 ((L 1 : Nat) : Int), .int .u8 ((L 2 : Nat) : Int), .int .u8 ((L 3 : Nat) : Int), .int .u8 ((L 4 : Nat) : Int)] : Array Value)[k]? = some (.int .u8 ((L k : Nat) : Int)) := by
  rcases (by omega : k = 0 ∨ k = 1 ∨ k = 2 ∨ k = 3 ∨ k = 4) with rfl | rfl | rfl | rfl | rfl <;> rfl
theorem Bqs (w : World) (A B C : Array Value) (t u v : TypeId) : Bxs w (((w.alloc (.cells A t)).alloc (.cells B u)).alloc (.cells C v)) [(A, t), (B, u), (C, v)] :=
  (((Bxs.nil w).add rfl A t).add (by simp) B u).add (by simp) C v
set_option maxRecDepth 100000 in
set_option maxHeartbeats 2000000 in
theorem rLevel_any (L C : Nat → Nat) (l : Nat) (u : Int) (ev inh : Nat) (w : World) (hl : l < 256) (hi : inh < 256) : Calls Try.prog 54 #[.agg #[.int .u8 ((L 0 : Nat) : Int), .int .u8 ((L 1 : Nat) : Int), .int .u8 ((L 2 : Nat) : Int), .int .u8 ((L 3 : Nat) : Int), .int .u8 ((L 4 : Nat) : Int)], .agg #[.int .u8 ((C 0 : Nat) : Int), .int .u8 ((C 1 : Nat) : Int), .int .u8 ((C 2 : Nat) : Int), .int .u8 ((C 3 : Nat) : Int), .int .u8 ((C 4 : Nat) : Int)], .agg #[.int .u8 ((l : Nat) : Int), .int .i64 u, .int .u8 ((ev : Nat) : Int)], .int .u8 (inh : Nat)] w fun e w' => e = .returned (.int .i64 (lvI (rsL inh L C l u))) ∧ Below w.heap.size w w' := by
  obtain ⟨S, hS⟩ : ∃ S, rsL inh L C l u = S := ⟨_, rfl⟩
  rw [hS]
  have HS := Lib.hid hS
  clear hS
  have HV := Lib.hid (Bqs w #[.int .u8 ((L 0 : Nat) : Int), .int .u8 ((L 1 : Nat) : Int), .int .u8 ((L 2 : Nat) : Int), .int .u8 ((L 3 : Nat) : Int), .int .u8 ((L 4 : Nat) : Int)] #[.int .u8 ((C 0 : Nat) : Int), .int .u8 ((C 1 : Nat) : Int), .int .u8 ((C 2 : Nat) : Int), .int .u8 ((C 3 : Nat) : Int), .int .u8 ((C 4 : Nat) : Int)] #[.int .u8 ((l : Nat) : Int), .int .i64 u, .int .u8 ((ev : Nat) : Int)] 98 98 87)
  go_enter Try.func54, Try.ntmps54
  go_upto_region 1 with fail
  obtain ⟨w1, hw1⟩ : ∃ w1, w1 = ((w.alloc (.cells #[.int .u8 ((L 0 : Nat) : Int), .int .u8 ((L 1 : Nat) : Int), .int .u8 ((L 2 : Nat) : Int), .int .u8 ((L 3 : Nat) : Int), .int .u8 ((L 4 : Nat) : Int)] 98)).alloc (.cells #[.int .u8 ((C 0 : Nat) : Int), .int .u8 ((C 1 : Nat) : Int), .int .u8 ((C 2 : Nat) : Int), .int .u8 ((C 3 : Nat) : Int), .int .u8 ((C 4 : Nat) : Int)] 98)).alloc (.cells #[.int .u8 ((l : Nat) : Int), .int .i64 u, .int .u8 ((ev : Nat) : Int)] 87) := ⟨_, rfl⟩
  rw [← hw1] at HV ⊢
  obtain ⟨g, hg⟩ : ∃ g, g = w.heap.size := ⟨_, rfl⟩
  have hq : w1.heap[g]? = some (.cells #[.int .u8 ((L 0 : Nat) : Int), .int .u8 ((L 1 : Nat) : Int), .int .u8 ((L 2 : Nat) : Int), .int .u8 ((L 3 : Nat) : Int), .int .u8 ((L 4 : Nat) : Int)] 98 (0, 0)) := by rw [hg]; exact HV.out.at_ 0 _ _ rfl
  have hq1 : w1.heap[g + 1]? = some (.cells #[.int .u8 ((C 0 : Nat) : Int), .int .u8 ((C 1 : Nat) : Int), .int .u8 ((C 2 : Nat) : Int), .int .u8 ((C 3 : Nat) : Int), .int .u8 ((C 4 : Nat) : Int)] 98 (0, 0)) := by rw [hg]; exact HV.out.at_ 1 _ _ rfl
  have hq2 : w1.heap[g + 2]? = some (.cells #[.int .u8 ((l : Nat) : Int), .int .i64 u, .int .u8 ((ev : Nat) : Int)] 87 (0, 0)) := by rw [hg]; exact HV.out.at_ 2 _ _ rfl
  have HB := Lib.hid HV.out.be
  have HG := Lib.hid hg
  rw [show w.heap.size + 1 + 1 = g + 2 by omega, show w.heap.size + 1 = g + 1 by omega]
  rw [show (Value.pointer (some ⟨w.heap.size, 0, none⟩)) = .pointer (some ⟨g, 0, none⟩) by rw [hg]]
  obtain ⟨g2, hg2⟩ : ∃ k, k = g + 2 := ⟨_, rfl⟩
  obtain ⟨g1, hg1⟩ : ∃ k, k = g + 1 := ⟨_, rfl⟩
  rw [← hg2] at hq2 ⊢
  rw [← hg1] at hq1 ⊢
  clear hw1 HV hg hg1 hg2
  have c0 := cell_of_row _ _ 0 _ _ _ hq2
  have c1 := cell_of_row _ _ 1 _ _ _ hq2
  have c2 := cell_of_row _ _ 2 _ _ _ hq2
  have H0 := Lib.hid hq
  have H1 := Lib.hid hq1
  have H2 := Lib.hid hq2
  clear hq hq1 hq2
  go_wp2_with fail
  go_at_call 49
  refine (rRight_any l u ev _ hl).mono ?_
  rintro e w2 ⟨rfl, hb⟩
  have h0 := box_below H0.out hb (box_lt H0.out)
  have h1 := box_below H1.out hb (box_lt H1.out)
  have h2 := box_below H2.out hb (box_lt H2.out)
  have HB2 := Lib.hid (HB.out.trans (hb.mono HB.out.size))
  clear hb c0 c1 c2 H0 H1 H2 HB
  cases hr : rgt l u
  · have e : lvI S = -1 := by rw [← HS.out]; unfold rsL; rw [if_neg (by rw [hr]; decide)]; rfl
    have HE := Lib.hid e
    clear hr e h0 h1 h2
    go_wp2
    go_ret
    exact ⟨by rw [HE.out]; rfl, HB2.out⟩
  · have hact : act inh L C (5 - l) none = S := by have := HS.out; unfold rsL at this; rw [if_pos hr] at this; exact this
    have c0 := cell_of_row _ _ 0 _ _ _ h2
    have HACT := Lib.hid hact
    have hl5 := rgt_lt hr
    have K0 := Lib.hid h0
    have K1 := Lib.hid h1
    clear hr hact h2 h0 h1
    go_wp2_with fail
    go_loopw [9, 10] (fun v9 v10 wr => ∃ (k : Nat) (r : Option Nat), k ≤ 5 ∧ v9 = .int .i64 (lvI r) ∧ v10 = .int .i64 (k : Nat) ∧ act inh L C (5 - k) r = S ∧ wr.heap[g]? = some (.cells #[.int .u8 ((L 0 : Nat) : Int), .int .u8 ((L 1 : Nat) : Int), .int .u8 ((L 2 : Nat) : Int), .int .u8 ((L 3 : Nat) : Int), .int .u8 ((L 4 : Nat) : Int)] 98 (0, 0)) ∧ wr.heap[g1]? = some (.cells #[.int .u8 ((C 0 : Nat) : Int), .int .u8 ((C 1 : Nat) : Int), .int .u8 ((C 2 : Nat) : Int), .int .u8 ((C 3 : Nat) : Int), .int .u8 ((C 4 : Nat) : Int)] 98 (0, 0)) ∧ Below w.heap.size w wr) (fun _ v _ => 5 - (intOf v).toNat)
    case atStart => exact ⟨l, none, by omega, rfl, rfl, HACT.out, K0.out, K1.out, HB2.out⟩
    case round =>
      clear c0 K0 K1 HB2 HACT
      obtain ⟨k, r, hk, rfl, rfl, hact, h0, h1, hbw⟩ := hrel
      have K0 := Lib.hid h0
      have K1 := Lib.hid h1
      have HB := Lib.hid hbw
      have HA := Lib.hid hact
      clear h0 h1 hbw hact
      by_cases h5 : k < 5
      · have HSS := Lib.hid (act_step inh L C h5 r)
        go_wp2_with fail
        go_at_call 51
        refine (rAllowed_any inh k _ hi h5).mono ?_
        rintro e w' ⟨rfl, rfl⟩
        cases ha : al inh k
        · have hnext : act inh L C (5 - (k + 1)) r = S := by rw [← HA.out, HSS.out, ha]; rfl
          have HN := Lib.hid hnext
          clear ha hnext
          go_wp2
          go_roundw
          case rel => exact ⟨k + 1, r, by omega, rfl, by go_num, HN.out, K0.out, K1.out, HB.out⟩
          case measure => simp [intOf]; omega
        · have c1 := cell_of_row _ _ k _ _ _ K1.out
          have c2 := cell_of_row _ _ k _ _ _ K0.out
          rw [fi_at C h5] at c1
          rw [fi_at L h5] at c2
          have hs2 := HSS.out
          rw [if_pos ha] at hs2
          by_cases hc : C k < L k
          · have hfin : some k = S := by rw [← HA.out, hs2, if_pos hc]
            have HF := Lib.hid hfin
            clear ha hfin hs2
            go_upto_region 8 with fail
            go_quiet (fail)
            go_wp2
            go_ret
            rw [← HF.out]
            exact ⟨rfl, HB.out.trans ((bel_drewV _ _).mono HB.out.size)⟩
          · have hnext : act inh L C (5 - (k + 1)) (some k) = S := by rw [← HA.out, hs2, if_neg hc]
            have HN := Lib.hid hnext
            clear ha hnext hs2
            go_upto_region 8 with fail
            go_quiet (fail)
            go_wp2
            go_roundw
            case rel => exact ⟨k + 1, some k, by omega, rfl, by go_num, HN.out, K0.out, K1.out, HB.out.trans ((bel_drewV _ _).mono HB.out.size)⟩
            case measure => simp [intOf]; omega
      · have e : act inh L C (5 - k) r = r := by rw [show 5 - k = 0 by omega]; rfl
        have hr : r = S := by rw [← HA.out, e]
        have HR := Lib.hid hr
        clear hr e
        go_wp2
        go_ret
        rw [← HR.out]
        exact ⟨rfl, HB.out⟩
end Go.Proofs.Ytinaimacocgemaa
