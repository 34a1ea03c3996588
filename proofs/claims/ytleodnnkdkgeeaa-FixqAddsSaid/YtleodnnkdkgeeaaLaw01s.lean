/- FixqSums, FixqAdds -/
import Derived.Test.YtleodnnkdkgeeaaLaw01
import Derived.Test.YtleodnnkdkgeeaaOwn
import Derived.Test.YtleodnnkdkgeeaaFrame
import Derived.Handy
namespace Go.Proofs.Ytleodnnkdkgeeaa
open Go.RowKit
set_option linter.unusedVariables false


theorem info_i64 : (Try.prog.info? 2).map (fun i => (i.zero, i.size, i.bytes)) = some (some (.int .i64 0), 1, 8) := by kernel_rfl
theorem info_i32 : (Try.prog.info? 21).map (fun i => (i.zero, i.size, i.bytes)) = some (some (.int .i32 0), 1, 4) := by kernel_rfl

theorem cast64 (k : Nat) : Value.int .i64 ((k : Int) + 1) = Value.int .i64 ((k + 1 : Nat) : Int) := by simp

set_option maxRecDepth 100000 in
set_option maxHeartbeats 1000000 in
theorem walk_FixqSums (a : Option Addr) (len cap : Nat) (z : List Int) (w : World) (w0 : IsRow .i64 w a len cap z) :
    Calls Try.prog 7 #[.slice a len cap] w fun e w' => e = .returned (.bool true) ∧ Below w.heap.size w w' := by
  obtain ⟨i0, hi, hz0, hz1, hz2⟩ := info_parts info_i64
  rcases w0 with ⟨rfl, rfl, rfl, rfl⟩ | ⟨x, rfl, hl, hm, hz, hcell, hwz⟩
  · go_enter Try.func7, Try.ntmps7
    go_wp2_with (go_at_call 15; refine (awake01 _).mono ?_; rintro e w1 ⟨rfl, hb⟩)
    go_loop [3, 5, 17] (fun s _ i => i = .int .i64 0 ∧ s = .int .i64 0) (fun _ _ i => 0)
    case atStart => exact ⟨rfl, rfl⟩
    case round =>
      obtain ⟨rfl, rfl⟩ := hrel
      go_wp2_with (go_at_call 28; (refine (Sum_any _ _ _ _ [] _ rfl (by decide) (by simp) (by simp)).mono ?_); rintro e w' ⟨rfl, rfl⟩)
      go_ret
      exact ⟨rfl, hb.alloc hb.size _⟩
  · rcases (by omega : 50 < len ∨ len ≤ 50) with h50 | h50
    · obtain ⟨ys, hy1, hy2, hy3, -⟩ := Go.Own.take_row hcell hwz 50 (by omega)
      have hbig : ys.length ≤ 50 := by omega
      go_enter Try.func7, Try.ntmps7
      go_wp2_with (first | (go_at_call 15; refine (awake01 _).mono ?_; rintro e w1 ⟨rfl, hb⟩) | (at_builtin; refine wpList_append_own _ rfl _ _ 37 rfl w.heap.size 2 i0 (.int .i64 0) 1 8 Try.underlying37 hi hz0 hz1 hz2 rfl (by decide) _ _ _ rfl (World.ownsRow_made _ #[] 0 ?c0 (by decide) rfl) x 50 cap (ys.map (Value.int .i64)) rfl ?c1 ?c2 (Go.Own.news_one _) ?c3 ?c4 ?c5 ?_))
      case c0 => exact hb.size
      case c1 => simp [hy1]
      case c2 => exact Go.Own.news_of hy2 (hb.alloc hb.size _)
      case c3 => unfold maxLen; omega
      case c4 => omega
      case c5 => have := hb.size; simp; omega
      intro v' w2 hown hgrow hnil
      have hb2 : Below w.heap.size w w2 := (hb.alloc hb.size _).grown hgrow (by have := hb.size; simp; omega) (fun k hk => by simp [Value.ownBlock] at hk; have := hb.size; omega)
      obtain ⟨g, cp, hv, hg, hgs, hcp, hcm, hcl⟩ := Go.Own.own_split hown hnil
      subst hv
      have hcy := Go.Own.cells_of hy1 hcl
      clear hown hgrow hnil hcl hcell hwz hb hy2
      have hwb : ∀ n, n ∈ ys → -9223372036854775808 ≤ n ∧ n ≤ 9223372036854775807 := fun n hn => bounds_i64 (hy3 n hn)
      have HW := Lib.hid hwb
      have HC := Lib.hid hcy
      have HL := Lib.hid hy1
      clear hwb hcy hy3 hy1
      go_wp2
      go_loop [3, 5, 17] (fun s _ i => ∃ k : Nat, k ≤ ys.length ∧ i = .int .i64 k ∧ s = .int .i64 (Fx.sums (ys.take k))) (fun _ _ i => ys.length - (intOf i).toNat)
      case atStart => exact ⟨0, Nat.zero_le _, rfl, rfl⟩
      case round =>
        obtain ⟨k, hk, rfl, rfl⟩ := hrel
        have hlo : 50 ≤ ys.length := by have := HL.out; omega
        have hhi : ys.length ≤ 50 := by have := HL.out; omega
        have hbd := Fx.sums_bd (ys.take k)
        by_cases hlt : k < ys.length
        · have hcell : w2.cell? ⟨g, k, none⟩ = some (.int .i64 (ys[k]?.getD 0)) := by have := HC.out k hlt; simpa [List.getD] using this
          have hx := HW.out (ys.getD k 0) (by simp [List.getD, hlt])
          have hs : Fx.sums (ys.take (k + 1)) = Fx.sat64 (Fx.sums (ys.take k) + ys.getD k 0) := by rw [Fx.take_snoc ys k hlt, Fx.sums_snoc]
          obtain ⟨e, he⟩ : ∃ e, e = ys[k]?.getD 0 := ⟨_, rfl⟩
          rw [show ys.getD k 0 = ys[k]?.getD 0 from rfl, ← he] at hs hx
          rw [← he] at hcell
          have HS := Lib.hid hs
          clear hs he
          rcases Fx.sat64_cases (Fx.sums (ys.take k) + e) with ⟨h1, h2⟩ | ⟨h1, h2⟩ | ⟨h1, h1', h2⟩
          · have H2 := Lib.hid h2
            clear h2
            go_wp2
            go_round
            case rel => exact ⟨k + 1, by omega, by go_num, by rw [HS.out, H2.out]⟩
            case measure => simp [intOf]; omega
          · have H2 := Lib.hid h2
            clear h2
            go_wp2
            go_round
            case rel => exact ⟨k + 1, by omega, by go_num, by rw [HS.out, H2.out]⟩
            case measure => simp [intOf]; omega
          · have H2 := Lib.hid h2
            clear h2
            go_wp2
            all_goals
              go_round
              case rel => exact ⟨k + 1, by omega, by go_num, by rw [HS.out, H2.out]⟩
              case measure => simp [intOf]; omega
        · have hk2 : ys.take k = ys := List.take_of_length_le (by omega)
          have hge : (50 : Nat) ≤ k := by omega
          rw [hk2]
          clear hk2
          go_wp2_with (go_at_call 28; refine (Sum_any g 0 50 cp ys _ HL.out.symm (by omega) HW.out HC.out).mono ?_; rintro e w' ⟨rfl, rfl⟩)
          go_ret
          exact ⟨ret_true (by simp), hb2⟩
    · obtain ⟨ys, hy1, hy2, hy3, -⟩ := Go.Own.take_row hcell hwz len (by omega)
      have hbig : ys.length ≤ 50 := by omega
      go_enter Try.func7, Try.ntmps7
      go_wp2_with (first | (go_at_call 15; refine (awake01 _).mono ?_; rintro e w1 ⟨rfl, hb⟩) | (at_builtin; refine wpList_append_own _ rfl _ _ 37 rfl w.heap.size 2 i0 (.int .i64 0) 1 8 Try.underlying37 hi hz0 hz1 hz2 rfl (by decide) _ _ _ rfl (World.ownsRow_made _ #[] 0 ?c0 (by decide) rfl) x len cap (ys.map (Value.int .i64)) rfl ?c1 ?c2 (Go.Own.news_one _) ?c3 ?c4 ?c5 ?_))
      case c0 => exact hb.size
      case c1 => simp [hy1]
      case c2 => exact Go.Own.news_of hy2 (hb.alloc hb.size _)
      case c3 => unfold maxLen; omega
      case c4 => omega
      case c5 => have := hb.size; simp; omega
      intro v' w2 hown hgrow hnil
      have hb2 : Below w.heap.size w w2 := (hb.alloc hb.size _).grown hgrow (by have := hb.size; simp; omega) (fun k hk => by simp [Value.ownBlock] at hk; have := hb.size; omega)
      obtain ⟨g, cp, hv, hg, hgs, hcp, hcm, hcl⟩ := Go.Own.own_split hown hnil
      subst hv
      have hcy := Go.Own.cells_of hy1 hcl
      clear hown hgrow hnil hcl hcell hwz hb hy2
      have hwb : ∀ n, n ∈ ys → -9223372036854775808 ≤ n ∧ n ≤ 9223372036854775807 := fun n hn => bounds_i64 (hy3 n hn)
      have HW := Lib.hid hwb
      have HC := Lib.hid hcy
      have HL := Lib.hid hy1
      clear hwb hcy hy3 hy1
      go_wp2
      go_loop [3, 5, 17] (fun s _ i => ∃ k : Nat, k ≤ ys.length ∧ i = .int .i64 k ∧ s = .int .i64 (Fx.sums (ys.take k))) (fun _ _ i => ys.length - (intOf i).toNat)
      case atStart => exact ⟨0, Nat.zero_le _, rfl, rfl⟩
      case round =>
        obtain ⟨k, hk, rfl, rfl⟩ := hrel
        have hlo : len ≤ ys.length := by have := HL.out; omega
        have hhi : ys.length ≤ len := by have := HL.out; omega
        have hbd := Fx.sums_bd (ys.take k)
        by_cases hlt : k < ys.length
        · have hcell : w2.cell? ⟨g, k, none⟩ = some (.int .i64 (ys[k]?.getD 0)) := by have := HC.out k hlt; simpa [List.getD] using this
          have hx := HW.out (ys.getD k 0) (by simp [List.getD, hlt])
          have hs : Fx.sums (ys.take (k + 1)) = Fx.sat64 (Fx.sums (ys.take k) + ys.getD k 0) := by rw [Fx.take_snoc ys k hlt, Fx.sums_snoc]
          obtain ⟨e, he⟩ : ∃ e, e = ys[k]?.getD 0 := ⟨_, rfl⟩
          rw [show ys.getD k 0 = ys[k]?.getD 0 from rfl, ← he] at hs hx
          rw [← he] at hcell
          have HS := Lib.hid hs
          clear hs he
          rcases Fx.sat64_cases (Fx.sums (ys.take k) + e) with ⟨h1, h2⟩ | ⟨h1, h2⟩ | ⟨h1, h1', h2⟩
          · have H2 := Lib.hid h2
            clear h2
            go_wp2
            go_round
            case rel => exact ⟨k + 1, by omega, by go_num, by rw [HS.out, H2.out]⟩
            case measure => simp [intOf]; omega
          · have H2 := Lib.hid h2
            clear h2
            go_wp2
            go_round
            case rel => exact ⟨k + 1, by omega, by go_num, by rw [HS.out, H2.out]⟩
            case measure => simp [intOf]; omega
          · have H2 := Lib.hid h2
            clear h2
            go_wp2
            all_goals
              go_round
              case rel => exact ⟨k + 1, by omega, by go_num, by rw [HS.out, H2.out]⟩
              case measure => simp [intOf]; omega
        · have hk2 : ys.take k = ys := List.take_of_length_le (by omega)
          have hge : (len : Nat) ≤ k := by omega
          rw [hk2]
          clear hk2
          go_wp2_with (go_at_call 28; refine (Sum_any g 0 len cp ys _ HL.out.symm (by omega) HW.out HC.out).mono ?_; rintro e w' ⟨rfl, rfl⟩)
          go_ret
          exact ⟨ret_true (by simp), hb2⟩

theorem abs_cases (a : Int) (h0 : -2147483648 ≤ a) (h1 : a ≤ 2147483647) : (a < 0 ∧ max a (Fx.sat (-a)) = Fx.sat (-a)) ∨ (0 ≤ a ∧ max a (Fx.sat (-a)) = Fx.sat a) := by
  by_cases h : a < 0
  · left; refine ⟨h, ?_⟩
    have : a ≤ Fx.sat (-a) := by unfold Fx.sat; split <;> (try split) <;> omega
    omega
  · right; refine ⟨by omega, ?_⟩
    rw [Fx.sat_id (-a) (by omega) (by omega), Fx.sat_id a (by omega) (by omega)]
    omega

set_option maxRecDepth 100000 in
set_option maxHeartbeats 4000000 in
theorem walk_FixqAdds (a b : Int) (l : Option Addr) (len cap : Nat) (z : List Int) (n : Int) (w : World) (wa : (Lit.int .i32 a).wf = true) (wb : (Lit.int .i32 b).wf = true) (w0 : IsRow .i32 w l len cap z) (wn : (Lit.int .i64 n).wf = true) :
    Calls Try.prog 3 #[.int .i32 a, .int .i32 b, .slice l len cap, .int .i64 n] w fun e w' => e = .returned (.bool true) ∧ Below w.heap.size w w' := by
  obtain ⟨i0, hi, hz0, hz1, hz2⟩ := info_parts info_i32
  obtain ⟨a0, a1⟩ := bounds_i32 wa
  obtain ⟨b0, b1⟩ := bounds_i32 wb
  obtain ⟨n0, n1⟩ := bounds_i64 wn
  have habs := abs_cases a a0 a1
  clear wa wb wn
  rcases w0 with ⟨rfl, rfl, rfl, rfl⟩ | ⟨x, rfl, hl, hm, hz, hcell, hwz⟩
  · rcases habs with ⟨hs, habs⟩ | ⟨hs, habs⟩
    all_goals
      go_enter Try.func3, Try.ntmps3
      go_wp2_with (go_at_call 15; refine (awake01 _).mono ?_; rintro e w1 ⟨rfl, hb⟩)
      go_loop [9, 11, 24] (fun s _ i => i = .int .i64 0 ∧ s = .int .i64 0) (fun _ _ i => 0)
      case atStart => exact ⟨rfl, rfl⟩
      case round =>
        obtain ⟨rfl, rfl⟩ := hrel
        go_wp2_with (first | (go_at_call 18; (refine (Add_any _ _ _ _ [] _ rfl (by decide) (by simp) (by simp)).mono ?_); rintro e w' ⟨rfl, rfl⟩) | (go_at_call 16; (with_reducible refine (Sat_any _ _ ?_ ?_).mono ?_); (· omega); (· omega); rintro e w' ⟨rfl, rfl⟩) | (go_at_call 17; (with_reducible refine (rSat_any _ _ ?_ ?_).mono ?_); (· omega); (· omega); rintro e w' ⟨rfl, rfl⟩) | (go_at_call 19; (with_reducible refine (Sub_any _ _ _ ?_ ?_ ?_ ?_).mono ?_); (· omega); (· omega); (· omega); (· omega); rintro e w' ⟨rfl, rfl⟩) | (go_at_call 20; (with_reducible refine (Neg_any _ _ ?_ ?_).mono ?_); (· omega); (· omega); rintro e w' ⟨rfl, rfl⟩) | (go_at_call 21; (with_reducible refine (Abs_any _ _ ?_ ?_).mono ?_); (· omega); (· omega); rintro e w' ⟨rfl, rfl⟩))
        go_ret
        exact ⟨ret_true (by simp), hb.alloc hb.size _⟩
  · rcases (by omega : 50 < len ∨ len ≤ 50) with h50 | h50
    · obtain ⟨ys, hy1, hy2, hy3, -⟩ := Go.Own.take_row hcell hwz 50 (by omega)
      have hbig : ys.length ≤ 50 := by omega
      go_enter Try.func3, Try.ntmps3
      go_wp2_with (first | (go_at_call 15; refine (awake01 _).mono ?_; rintro e w1 ⟨rfl, hb⟩) | (at_builtin; refine wpList_append_own _ rfl _ _ 22 rfl w.heap.size 21 i0 (.int .i32 0) 1 4 Try.underlying22 hi hz0 hz1 hz2 rfl (by decide) _ _ _ rfl (World.ownsRow_made _ #[] 0 ?c0 (by decide) rfl) x 50 cap (ys.map (Value.int .i32)) rfl ?c1 ?c2 (Go.Own.news_one _) ?c3 ?c4 ?c5 ?_))
      case c0 => exact hb.size
      case c1 => simp [hy1]
      case c2 => exact Go.Own.news_of hy2 (hb.alloc hb.size _)
      case c3 => unfold maxLen; omega
      case c4 => omega
      case c5 => have := hb.size; simp; omega
      intro v' w2 hown hgrow hnil
      have hb2 : Below w.heap.size w w2 := (hb.alloc hb.size _).grown hgrow (by have := hb.size; simp; omega) (fun k hk => by simp [Value.ownBlock] at hk; have := hb.size; omega)
      obtain ⟨g, cp, hv, hg, hgs, hcp, hcm, hcl⟩ := Go.Own.own_split hown hnil
      subst hv
      have hcy := Go.Own.cells_of hy1 hcl
      clear hown hgrow hnil hcl hcell hwz hb hy2
      have hwb : ∀ n, n ∈ ys → -2147483648 ≤ n ∧ n ≤ 2147483647 := fun n hn => bounds_i32 (hy3 n hn)
      have hfull := Fx.sum_bd ys hwb
      have HW := Lib.hid hwb
      have HC := Lib.hid hcy
      have HL := Lib.hid hy1
      clear hwb hcy hy3 hy1
      go_wp2
      go_loop [9, 11, 24] (fun s _ i => ∃ k : Nat, k ≤ ys.length ∧ i = .int .i64 k ∧ s = .int .i64 (Fx.sum (ys.take k))) (fun _ _ i => ys.length - (intOf i).toNat)
      case atStart => exact ⟨0, Nat.zero_le _, rfl, rfl⟩
      case round =>
        obtain ⟨k, hk, rfl, rfl⟩ := hrel
        have hlo : 50 ≤ ys.length := by have := HL.out; omega
        have hhi : ys.length ≤ 50 := by have := HL.out; omega
        have hbd := Fx.sum_bd (ys.take k) (fun x hx => HW.out x (List.mem_of_mem_take hx))
        have hl2 : (ys.take k).length = k := by simp; omega
        rw [hl2] at hbd
        clear hl2
        by_cases hlt : k < ys.length
        · have hcell : w2.cell? ⟨g, k, none⟩ = some (.int .i32 (ys[k]?.getD 0)) := by have := HC.out k hlt; simpa [List.getD] using this
          have hx := HW.out (ys.getD k 0) (by simp [List.getD, hlt])
          have hs : Fx.sum (ys.take (k + 1)) = Fx.sum (ys.take k) + ys.getD k 0 := by rw [Fx.take_snoc ys k hlt, Fx.sum_snoc]
          obtain ⟨e, he⟩ : ∃ e, e = ys[k]?.getD 0 := ⟨_, rfl⟩
          rw [show ys.getD k 0 = ys[k]?.getD 0 from rfl, ← he] at hs hx
          rw [← he] at hcell
          have HS := Lib.hid hs
          clear hs he
          go_wp2
          go_round
          case rel => exact ⟨k + 1, by omega, by go_num, by rw [HS.out]⟩
          case measure => simp [intOf]; omega
        · have hk2 : ys.take k = ys := List.take_of_length_le (by omega)
          have hge : (50 : Nat) ≤ k := by omega
          rw [hk2]
          clear hk2 hbd
          rcases habs with ⟨hs, habs⟩ | ⟨hs, habs⟩
          · go_wp2_with (first | (go_at_call 18; refine (Add_any g 0 50 cp ys _ HL.out.symm (by omega) HW.out HC.out).mono ?_; rintro e w' ⟨rfl, rfl⟩) | (go_at_call 16; (with_reducible refine (Sat_any _ _ ?_ ?_).mono ?_); (· omega); (· omega); rintro e w' ⟨rfl, rfl⟩) | (go_at_call 17; (with_reducible refine (rSat_any _ _ ?_ ?_).mono ?_); (· omega); (· omega); rintro e w' ⟨rfl, rfl⟩) | (go_at_call 19; (with_reducible refine (Sub_any _ _ _ ?_ ?_ ?_ ?_).mono ?_); (· omega); (· omega); (· omega); (· omega); rintro e w' ⟨rfl, rfl⟩) | (go_at_call 20; (with_reducible refine (Neg_any _ _ ?_ ?_).mono ?_); (· omega); (· omega); rintro e w' ⟨rfl, rfl⟩) | (go_at_call 21; (with_reducible refine (Abs_any _ _ ?_ ?_).mono ?_); (· omega); (· omega); rintro e w' ⟨rfl, rfl⟩))
            go_ret
            exact ⟨rfl, hb2⟩
          · go_wp2_with (first | (go_at_call 18; refine (Add_any g 0 50 cp ys _ HL.out.symm (by omega) HW.out HC.out).mono ?_; rintro e w' ⟨rfl, rfl⟩) | (go_at_call 16; (with_reducible refine (Sat_any _ _ ?_ ?_).mono ?_); (· omega); (· omega); rintro e w' ⟨rfl, rfl⟩) | (go_at_call 17; (with_reducible refine (rSat_any _ _ ?_ ?_).mono ?_); (· omega); (· omega); rintro e w' ⟨rfl, rfl⟩) | (go_at_call 19; (with_reducible refine (Sub_any _ _ _ ?_ ?_ ?_ ?_).mono ?_); (· omega); (· omega); (· omega); (· omega); rintro e w' ⟨rfl, rfl⟩) | (go_at_call 20; (with_reducible refine (Neg_any _ _ ?_ ?_).mono ?_); (· omega); (· omega); rintro e w' ⟨rfl, rfl⟩) | (go_at_call 21; (with_reducible refine (Abs_any _ _ ?_ ?_).mono ?_); (· omega); (· omega); rintro e w' ⟨rfl, rfl⟩))
            go_ret
            exact ⟨rfl, hb2⟩
    · obtain ⟨ys, hy1, hy2, hy3, -⟩ := Go.Own.take_row hcell hwz len (by omega)
      have hbig : ys.length ≤ 50 := by omega
      go_enter Try.func3, Try.ntmps3
      go_wp2_with (first | (go_at_call 15; refine (awake01 _).mono ?_; rintro e w1 ⟨rfl, hb⟩) | (at_builtin; refine wpList_append_own _ rfl _ _ 22 rfl w.heap.size 21 i0 (.int .i32 0) 1 4 Try.underlying22 hi hz0 hz1 hz2 rfl (by decide) _ _ _ rfl (World.ownsRow_made _ #[] 0 ?c0 (by decide) rfl) x len cap (ys.map (Value.int .i32)) rfl ?c1 ?c2 (Go.Own.news_one _) ?c3 ?c4 ?c5 ?_))
      case c0 => exact hb.size
      case c1 => simp [hy1]
      case c2 => exact Go.Own.news_of hy2 (hb.alloc hb.size _)
      case c3 => unfold maxLen; omega
      case c4 => omega
      case c5 => have := hb.size; simp; omega
      intro v' w2 hown hgrow hnil
      have hb2 : Below w.heap.size w w2 := (hb.alloc hb.size _).grown hgrow (by have := hb.size; simp; omega) (fun k hk => by simp [Value.ownBlock] at hk; have := hb.size; omega)
      obtain ⟨g, cp, hv, hg, hgs, hcp, hcm, hcl⟩ := Go.Own.own_split hown hnil
      subst hv
      have hcy := Go.Own.cells_of hy1 hcl
      clear hown hgrow hnil hcl hcell hwz hb hy2
      have hwb : ∀ n, n ∈ ys → -2147483648 ≤ n ∧ n ≤ 2147483647 := fun n hn => bounds_i32 (hy3 n hn)
      have hfull := Fx.sum_bd ys hwb
      have HW := Lib.hid hwb
      have HC := Lib.hid hcy
      have HL := Lib.hid hy1
      clear hwb hcy hy3 hy1
      go_wp2
      go_loop [9, 11, 24] (fun s _ i => ∃ k : Nat, k ≤ ys.length ∧ i = .int .i64 k ∧ s = .int .i64 (Fx.sum (ys.take k))) (fun _ _ i => ys.length - (intOf i).toNat)
      case atStart => exact ⟨0, Nat.zero_le _, rfl, rfl⟩
      case round =>
        obtain ⟨k, hk, rfl, rfl⟩ := hrel
        have hlo : len ≤ ys.length := by have := HL.out; omega
        have hhi : ys.length ≤ len := by have := HL.out; omega
        have hbd := Fx.sum_bd (ys.take k) (fun x hx => HW.out x (List.mem_of_mem_take hx))
        have hl2 : (ys.take k).length = k := by simp; omega
        rw [hl2] at hbd
        clear hl2
        by_cases hlt : k < ys.length
        · have hcell : w2.cell? ⟨g, k, none⟩ = some (.int .i32 (ys[k]?.getD 0)) := by have := HC.out k hlt; simpa [List.getD] using this
          have hx := HW.out (ys.getD k 0) (by simp [List.getD, hlt])
          have hs : Fx.sum (ys.take (k + 1)) = Fx.sum (ys.take k) + ys.getD k 0 := by rw [Fx.take_snoc ys k hlt, Fx.sum_snoc]
          obtain ⟨e, he⟩ : ∃ e, e = ys[k]?.getD 0 := ⟨_, rfl⟩
          rw [show ys.getD k 0 = ys[k]?.getD 0 from rfl, ← he] at hs hx
          rw [← he] at hcell
          have HS := Lib.hid hs
          clear hs he
          go_wp2
          go_round
          case rel => exact ⟨k + 1, by omega, by go_num, by rw [HS.out]⟩
          case measure => simp [intOf]; omega
        · have hk2 : ys.take k = ys := List.take_of_length_le (by omega)
          have hge : (len : Nat) ≤ k := by omega
          rw [hk2]
          clear hk2 hbd
          rcases habs with ⟨hs, habs⟩ | ⟨hs, habs⟩
          · go_wp2_with (first | (go_at_call 18; refine (Add_any g 0 len cp ys _ HL.out.symm (by omega) HW.out HC.out).mono ?_; rintro e w' ⟨rfl, rfl⟩) | (go_at_call 16; (with_reducible refine (Sat_any _ _ ?_ ?_).mono ?_); (· omega); (· omega); rintro e w' ⟨rfl, rfl⟩) | (go_at_call 17; (with_reducible refine (rSat_any _ _ ?_ ?_).mono ?_); (· omega); (· omega); rintro e w' ⟨rfl, rfl⟩) | (go_at_call 19; (with_reducible refine (Sub_any _ _ _ ?_ ?_ ?_ ?_).mono ?_); (· omega); (· omega); (· omega); (· omega); rintro e w' ⟨rfl, rfl⟩) | (go_at_call 20; (with_reducible refine (Neg_any _ _ ?_ ?_).mono ?_); (· omega); (· omega); rintro e w' ⟨rfl, rfl⟩) | (go_at_call 21; (with_reducible refine (Abs_any _ _ ?_ ?_).mono ?_); (· omega); (· omega); rintro e w' ⟨rfl, rfl⟩))
            go_ret
            exact ⟨rfl, hb2⟩
          · go_wp2_with (first | (go_at_call 18; refine (Add_any g 0 len cp ys _ HL.out.symm (by omega) HW.out HC.out).mono ?_; rintro e w' ⟨rfl, rfl⟩) | (go_at_call 16; (with_reducible refine (Sat_any _ _ ?_ ?_).mono ?_); (· omega); (· omega); rintro e w' ⟨rfl, rfl⟩) | (go_at_call 17; (with_reducible refine (rSat_any _ _ ?_ ?_).mono ?_); (· omega); (· omega); rintro e w' ⟨rfl, rfl⟩) | (go_at_call 19; (with_reducible refine (Sub_any _ _ _ ?_ ?_ ?_ ?_).mono ?_); (· omega); (· omega); (· omega); (· omega); rintro e w' ⟨rfl, rfl⟩) | (go_at_call 20; (with_reducible refine (Neg_any _ _ ?_ ?_).mono ?_); (· omega); (· omega); rintro e w' ⟨rfl, rfl⟩) | (go_at_call 21; (with_reducible refine (Abs_any _ _ ?_ ?_).mono ?_); (· omega); (· omega); rintro e w' ⟨rfl, rfl⟩))
            go_ret
            exact ⟨rfl, hb2⟩
end Go.Proofs.Ytleodnnkdkgeeaa
