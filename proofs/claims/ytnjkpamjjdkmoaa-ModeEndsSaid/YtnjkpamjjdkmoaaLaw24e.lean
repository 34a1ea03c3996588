/- ModeEnds. -/
import Derived.Test.YtnjkpamjjdkmoaaLaw24
namespace Go.Proofs.Ytnjkpamjjdkmoaa
open Go.RowKit Go.Own
set_option linter.unusedVariables false
set_option linter.unusedSimpArgs false
/-- Bools in memory. -/
structure BoS (w : World) (a : Option Addr) (len : Nat) (f : Nat → Bool) : Prop where
  at_ : 0 < len → ∃ b off, a = some ⟨b, off, none⟩ ∧ b < w.heap.size ∧ ∀ i, i < len → w.cell? ⟨b, off + i, none⟩ = some (.bool (f i))
theorem choose_natE {α : Type} [Inhabited α] {n : Nat} {p : Nat → α → Prop} (h : ∀ i, i < n → ∃ v, p i v) : ∃ f : Nat → α, ∀ i, i < n → p i (f i) :=
  ⟨fun i => if hi : i < n then Classical.choose (h i hi) else default, fun i hi => by simp only [dif_pos hi]; exact Classical.choose_spec (h i hi)⟩
theorem bos_flat {w : World} {a : Option Addr} {len cap : Nat} (h : IsFlat [.bool] w a len cap) : ∃ f, BoS w a len f := by
  obtain ⟨h1, h2, _, h4⟩ := h
  by_cases h0 : 0 < len
  · obtain ⟨b, off, e, hb, hx⟩ := h4 h0
    have each : ∀ i, i < len → ∃ r : Bool, w.cell? ⟨b, off + i, none⟩ = some (.bool r) := by
      intro i hi
      obtain ⟨cs, hf, hc⟩ := hx i hi
      match cs, hf with
      | [v0], ⟨⟨t1, e1⟩, _⟩ =>
        subst e1
        have := hc 0 _ rfl
        simp at this
        exact ⟨t1, this⟩
    obtain ⟨f, hf⟩ := choose_natE each
    exact ⟨f, ⟨fun _ => ⟨b, off, e, hb, fun i hi => hf i hi⟩⟩⟩
  · exact ⟨fun _ => false, ⟨fun h => absurd h h0⟩⟩
set_option maxRecDepth 100000 in
set_option maxHeartbeats 8000000 in
theorem walk_ModeEnds (cs0 : List Value) (a1 : Option Addr) (len1 cap1 : Nat) (a2 : Option Addr) (len2 cap2 : Nat) (w : World) (w0 : Fit w [.int .u8, .int .u8, .int .u8, .int .u16, .int .u16, .int .u16, .int .u16] cs0) (w1 : IsFlat [.bool] w a1 len1 cap1) (w2 : IsFlat [.bool] w a2 len2 cap2) :
    Calls Try.prog 13 #[.agg cs0.toArray, .slice a1 len1 cap1, .slice a2 len2 cap2] w fun e w' => e = .returned (.bool true) ∧ Below w.heap.size w w' := by
  obtain ⟨c0, hc, e1⟩ := cf_fit w0
  rw [e1]
  obtain ⟨f1, hf1⟩ := bos_flat w1
  obtain ⟨f2, hf2⟩ := bos_flat w2
  have HF1 := Lib.hid hf1
  have HF2 := Lib.hid hf2
  have hl1 : len1 ≤ maxLen := Nat.le_trans w1.1 w1.2.1
  have hl2 : len2 ≤ maxLen := Nat.le_trans w2.1 w2.2.1
  unfold maxLen at hl1 hl2
  have hc4 := hc.2.2.2 1 (by decide)
  have hc5 := hc.2.2.2 2 (by decide)
  have HC0 := Lib.hid hc
  clear w0 w1 w2 e1 hc cs0 hf1 hf2
  have hz := zero_mo
  have hq := (Bq.nil w).new #[.int .u8 ((Cf.calm c0 : Nat) : Int), .int .u8 ((Cf.seen c0 : Nat) : Int), .int .u8 ((Cf.lost c0 : Nat) : Int), .int .u16 ((Cf.t c0 0 : Nat) : Int), .int .u16 ((Cf.t c0 1 : Nat) : Int), .int .u16 ((Cf.t c0 2 : Nat) : Int), .int .u16 ((Cf.t c0 3 : Nat) : Int)] 126
  go_enter Try.func13, Try.ntmps13
  go_upto_region 1 with fail
  obtain ⟨w1, hw1⟩ : ∃ w1, w1 = w.alloc (.cells #[.int .u8 ((Cf.calm c0 : Nat) : Int), .int .u8 ((Cf.seen c0 : Nat) : Int), .int .u8 ((Cf.lost c0 : Nat) : Int), .int .u16 ((Cf.t c0 0 : Nat) : Int), .int .u16 ((Cf.t c0 1 : Nat) : Int), .int .u16 ((Cf.t c0 2 : Nat) : Int), .int .u16 ((Cf.t c0 3 : Nat) : Int)] 126) := ⟨_, rfl⟩
  rw [← hw1] at hq ⊢
  obtain ⟨g3, hg3⟩ : ∃ g, g = w.heap.size := ⟨_, rfl⟩
  rw [← hg3] at hq
  rw [show (Value.pointer (some ⟨w.heap.size, 0, none⟩)) = .pointer (some ⟨g3, 0, none⟩) by rw [hg3]]
  have HQ1 := Lib.hid (show Bq w w1 [(g3, #[.int .u8 ((Cf.calm c0 : Nat) : Int), .int .u8 ((Cf.seen c0 : Nat) : Int), .int .u8 ((Cf.lost c0 : Nat) : Int), .int .u16 ((Cf.t c0 0 : Nat) : Int), .int .u16 ((Cf.t c0 1 : Nat) : Int), .int .u16 ((Cf.t c0 2 : Nat) : Int), .int .u16 ((Cf.t c0 3 : Nat) : Int)], 126)] from hq)
  clear hq hw1 hg3
  go_wp2_with fail
  go_at_call 65
  refine (awake24 _).mono ?_
  rintro e w2 ⟨rfl, hb⟩
  have HQ2 := Lib.hid (HQ1.out.step hb)
  clear hb HQ1
  have d4 : w2.cell? ⟨g3, 4, none⟩ = some (.int .u16 ((c0.t 1 : Nat) : Int)) := cell_of_row _ _ 4 _ _ _ (HQ2.out.of 0 rfl)
  have d5 : w2.cell? ⟨g3, 5, none⟩ = some (.int .u16 ((c0.t 2 : Nat) : Int)) := cell_of_row _ _ 5 _ _ _ (HQ2.out.of 0 rfl)
  have f4 := frozen_of_row _ _ 4 _ _ (HQ2.out.of 0 rfl)
  have f5 := frozen_of_row _ _ 5 _ _ (HQ2.out.of 0 rfl)
  obtain ⟨p, hp⟩ : ∃ p, p = 1 + c0.t 1 % 60 := ⟨_, rfl⟩
  obtain ⟨q, hqq⟩ : ∃ q, q = 1 + c0.t 2 % 60 := ⟨_, rfl⟩
  have hp1 : 0 < p ∧ p ≤ 60 := by omega
  have hq1 : 0 < q ∧ q ≤ 60 := by omega
  have EP := Lib.hid (show (1 + (c0.t 1 : Int) % 60) = (p : Int) by omega)
  have EQ := Lib.hid (show (1 + (c0.t 2 : Int) % 60) = (q : Int) by omega)
  have HV := Lib.hid ((HQ2.out.set 0 rfl 4 (.int .u16 ((p : Nat) : Int))).set 0 rfl 5 (.int .u16 ((q : Nat) : Int)))
  clear hp hqq
  go_upto_region 4 with fail
  rw [EP.out, EQ.out]
  obtain ⟨c, hce⟩ : ∃ c : Cf, c = ⟨c0.calm, c0.seen, c0.lost, fun k => if k = 1 then p else if k = 2 then q else c0.t k⟩ := ⟨_, rfl⟩
  obtain ⟨w3, hw3⟩ : ∃ w1, w1 = (w2.setCell ⟨g3, 4, none⟩ (.int .u16 ((p : Nat) : Int))).setCell ⟨g3, 5, none⟩ (.int .u16 ((q : Nat) : Int)) := ⟨_, rfl⟩
  have HQ3 := Lib.hid (show Bq w w3 [(g3, #[.int .u8 ((Cf.calm c : Nat) : Int), .int .u8 ((Cf.seen c : Nat) : Int), .int .u8 ((Cf.lost c : Nat) : Int), .int .u16 ((Cf.t c 0 : Nat) : Int), .int .u16 ((Cf.t c 1 : Nat) : Int), .int .u16 ((Cf.t c 2 : Nat) : Int), .int .u16 ((Cf.t c 3 : Nat) : Int)], 126)] by rw [hw3, hce]; exact HV.out)
  rw [← hw3]
  have htp : c.t 1 = p := by rw [hce]; rfl
  have htq : c.t 2 = q := by rw [hce]; rfl
  have hC : c.Ok := by
    refine ⟨by rw [hce]; exact HC0.out.1, by rw [hce]; exact HC0.out.2.1, by rw [hce]; exact HC0.out.2.2.1, fun k hk => ?_⟩
    have h := HC0.out.2.2.2 k hk
    rw [hce]
    show (if k = 1 then p else if k = 2 then q else c0.t k) < 65536
    split
    · omega
    · split
      · omega
      · exact h
  have HC := Lib.hid hC
  have HT := Lib.hid (show (0 < c.t 1 ∧ c.t 1 ≤ 60) ∧ (0 < c.t 2 ∧ c.t 2 ≤ 60) by omega)
  clear hw3 hce HV EP EQ d4 d5 f4 f5 HQ2 hC HC0 hc4 hc5 hp1 hq1 htp htq
  have hA := fun w => Ask_any moZ c 1 w moZ_ok HC.out (by decide)
  rw [ask_else c (by decide) (by decide) (by show (1 : Nat) ≠ 0; decide), show decide (mayM moZ c 1) = true from decide_eq_true (.inl ⟨rfl, rfl⟩), if_pos rfl] at hA
  have HA := Lib.hid (show ∀ w, Calls Try.prog 69 #[.agg #[.int .u8 0, .int .u16 0, .int .u8 0, .int .u8 0, .int .u8 0], .agg #[.int .u8 ((Cf.calm c : Nat) : Int), .int .u8 ((Cf.seen c : Nat) : Int), .int .u8 ((Cf.lost c : Nat) : Int), .int .u16 ((Cf.t c 0 : Nat) : Int), .int .u16 ((Cf.t c 1 : Nat) : Int), .int .u16 ((Cf.t c 2 : Nat) : Int), .int .u16 ((Cf.t c 3 : Nat) : Int)], .int .u8 1] w fun e w' => e = .returned (.tuple #[.agg #[.int .u8 1, .int .u16 0, .int .u8 0, .int .u8 0, .int .u8 0], .int .i64 0]) ∧ Below w.heap.size w w' from hA)
  clear hA
  have b3 := HQ3.out.of 0 rfl
  go_wp2_with ((with_reducible show wpList _ _ _ (_ :: _) _ _); refine wpList_load_row rfl 126 _ rfl _ rfl _ _ _ _ b3 Try.underlying126 rfl (by exact size_cf) ?_; (try go_simp))
  refine (HA.out _).mono ?_
  rintro e w4 ⟨rfl, hb⟩
  have HQ4 := Lib.hid ((HQ3.out.step hb).new #[.int .u8 1, .int .u16 0, .int .u8 0, .int .u8 0, .int .u8 0] 123)
  clear hb b3 HQ3 HA
  go_upto_region 5 with ((with_reducible show wpList _ _ _ (_ :: _) _ _); refine wpList_store_row rfl 123 _ _ rfl _ _ rfl rfl _ _ (heap_alloc_new _ _) (by exact size_mo) (by rfl) (by simp [Value.oneCell']) ?_; rw [World.setRow_alloc_new])
  obtain ⟨w5, hw5⟩ : ∃ w1, w1 = w4.alloc (.cells #[.int .u8 1, .int .u16 0, .int .u8 0, .int .u8 0, .int .u8 0] 123) := ⟨_, rfl⟩
  obtain ⟨g7, hg7⟩ : ∃ g, g = w4.heap.size := ⟨_, rfl⟩
  have HQ5 := Lib.hid (show Bq w w5 [(g3, #[.int .u8 ((Cf.calm c : Nat) : Int), .int .u8 ((Cf.seen c : Nat) : Int), .int .u8 ((Cf.lost c : Nat) : Int), .int .u16 ((Cf.t c 0 : Nat) : Int), .int .u16 ((Cf.t c 1 : Nat) : Int), .int .u16 ((Cf.t c 2 : Nat) : Int), .int .u16 ((Cf.t c 3 : Nat) : Int)], 126), (g7, #[.int .u8 ((Mo.m (moI 1) : Nat) : Int), .int .u16 ((Mo.s (moI 1) : Nat) : Int), .int .u8 ((Mo.c (moI 1) : Nat) : Int), .int .u8 ((Mo.n (moI 1) : Nat) : Int), .int .u8 ((Mo.d (moI 1) : Nat) : Int)], 123)] by rw [hw5, hg7]; exact HQ4.out)
  rw [← hw5, ← hg7]
  clear hw5 hg7 HQ4
  go_wp2_with fail
  go_loopw [9] (fun v wr => ∃ (i : Nat) (a : Mo), i ≤ c.t 1 + c.t 2 ∧ a.Ok ∧ (doneM a c ∨ (onM a c ∧ leftM a c + i ≤ c.t 1 + c.t 2)) ∧ v = .int .i64 (i : Nat) ∧ Bq w wr [(g3, #[.int .u8 ((Cf.calm c : Nat) : Int), .int .u8 ((Cf.seen c : Nat) : Int), .int .u8 ((Cf.lost c : Nat) : Int), .int .u16 ((Cf.t c 0 : Nat) : Int), .int .u16 ((Cf.t c 1 : Nat) : Int), .int .u16 ((Cf.t c 2 : Nat) : Int), .int .u16 ((Cf.t c 3 : Nat) : Int)], 126), (g7, #[.int .u8 ((Mo.m a : Nat) : Int), .int .u16 ((Mo.s a : Nat) : Int), .int .u8 ((Mo.c a : Nat) : Int), .int .u8 ((Mo.n a : Nat) : Int), .int .u8 ((Mo.d a : Nat) : Int)], 123)]) (fun v _ => c.t 1 + c.t 2 - (intOf v).toNat)
  case atStart => exact ⟨0, moI 1, Nat.zero_le _, by unfold Mo.Ok moI; decide, .inr ⟨.inl ⟨rfl, HT.out.1.1⟩, by unfold leftM moI; simp⟩, rfl, HQ5.out⟩
  case round =>
    clear HQ5
    obtain ⟨i, a, hi, ha, hd, rfl, hq⟩ := hrel
    have HQ := Lib.hid hq
    have HA := Lib.hid ha
    have HD := Lib.hid hd
    clear hq ha hd
    have d4 : wr.cell? ⟨g3, 4, none⟩ = some (.int .u16 ((c.t 1 : Nat) : Int)) := cell_of_row _ _ 4 _ _ _ (HQ.out.of 0 rfl)
    have d5 : wr.cell? ⟨g3, 5, none⟩ = some (.int .u16 ((c.t 2 : Nat) : Int)) := cell_of_row _ _ 5 _ _ _ (HQ.out.of 0 rfl)
    have d1 : wr.cell? ⟨g3, 1, none⟩ = some (.int .u8 ((c.seen : Nat) : Int)) := cell_of_row _ _ 1 _ _ _ (HQ.out.of 0 rfl)
    have c3 : wr.cell? ⟨g7, 3, none⟩ = some (.int .u8 ((a.n : Nat) : Int)) := cell_of_row _ _ 3 _ _ _ (HQ.out.of 1 rfl)
    have ht1 := HT.out.1.2
    have ht2 := HT.out.2.2
    obtain ⟨am, hamm⟩ : ∃ n, a.m = n := ⟨_, rfl⟩
    have c0 : wr.cell? ⟨g7, 0, none⟩ = some (.int .u8 ((am : Nat) : Int)) := by
      have h : wr.cell? ⟨g7, 0, none⟩ = some (.int .u8 ((a.m : Nat) : Int)) := cell_of_row _ _ 0 _ _ _ (HQ.out.of 1 rfl)
      rw [hamm] at h
      exact h
    have HM := Lib.hid hamm
    clear hamm
    have hday : (am = 0 ∨ (am = 2 ∧ c.seen ≤ a.n)) ∨ (((am = 1 ∧ a.s < c.t 1) ∨ (am = 2 ∧ a.s < c.t 2)) ∧ leftM a c + i ≤ c.t 1 + c.t 2 ∧ 0 < leftM a c) := by
      rcases HD.out with h | ⟨h, h2⟩
      · unfold doneM at h
        rw [HM.out] at h
        exact .inl h
      · have h3 := on_left h
        unfold onM at h
        rw [HM.out] at h
        exact .inr ⟨h, h2, h3⟩
    by_cases hlt : i < c.t 1 + c.t 2
    · rcases (by omega : am = 0 ∨ (am = 2 ∧ c.seen ≤ a.n) ∨ (am = 1 ∧ ¬ (am = 0 ∨ (am = 2 ∧ c.seen ≤ a.n))) ∨ (am = 2 ∧ a.n < c.seen ∧ ¬ (am = 0 ∨ (am = 2 ∧ c.seen ≤ a.n)))) with rfl | ⟨rfl, h1⟩ | ⟨rfl, h2⟩ | ⟨rfl, h1, h2⟩
      · go_wp2
        go_ret
        exact ⟨rfl, HQ.out.be⟩
      · go_wp2
        go_ret
        exact ⟨rfl, HQ.out.be⟩
      all_goals
        have hon : onM a c ∧ leftM a c + i ≤ c.t 1 + c.t 2 := by
          rcases HD.out with h | h
          · unfold doneM at h
            rw [HM.out] at h
            exact absurd h h2
          · exact h
        have HON := Lib.hid hon
        clear hon hday h2 HD
        go_upto_region 12 with fail
        clear d4 d5 c0 d1 c3
        (try clear h1)
        by_cases g1 : i < len1
        · obtain ⟨p1, o1, rfl, hp1, hx1⟩ := HF1.out.at_ (by omega)
          have y1 := (HQ.out.be.cell (p := ⟨p1, o1 + i, none⟩) hp1).trans (hx1 i g1)
          have lp1 : p1 < wr.heap.size := Nat.lt_of_lt_of_le hp1 HQ.out.be.size
          clear hx1
          by_cases g2 : i < len2
          · obtain ⟨p2, o2, rfl, hp2, hx2⟩ := HF2.out.at_ (by omega)
            have y2 := (HQ.out.be.cell (p := ⟨p2, o2 + i, none⟩) hp2).trans (hx2 i g2)
            have lp2 : p2 < wr.heap.size := Nat.lt_of_lt_of_le hp2 HQ.out.be.size
            clear hx2
            skip
            have b3 := HQ.out.of 0 rfl
            have b7 := HQ.out.of 1 rfl
            have l3 := box_lt b3
            have l7 := box_lt b7
            have HS := Lib.hid (fun w => Step_any a c (f1 i) (f2 i) false w HA.out HC.out)
            have HRO := Lib.hid (step_ok HA.out c (f1 i) (f2 i) false)
            have HSL := Lib.hid (step_left (f1 i) (f2 i) HT.out.1.1 HT.out.2.1 HT.out.1.2 HT.out.2.2 HON.out.1)
            obtain ⟨r, hr⟩ : ∃ r, stepM a c (f1 i) (f2 i) false = r := ⟨_, rfl⟩
            rw [hr] at HS HRO HSL
            clear hr
            obtain ⟨I, W, hne, hWI, hIW⟩ := Go.Mix.family (fun v => Below wr.heap.size wr v) (Below.refl _ _)
            have HJ := Lib.hid hIW
            have HW := Lib.hid hWI
            clear hWI hIW
            refine Go.Flo3.wp_region (fun w' => ∃ i, w' = W i) 26 [Go.Flo.Spec.is (.tuple #[.agg #[.int .u8 ((Mo.m r.1 : Nat) : Int), .int .u16 ((Mo.s r.1 : Nat) : Int), .int .u8 ((Mo.c r.1 : Nat) : Int), .int .u8 ((Mo.n r.1 : Nat) : Int), .int .u8 ((Mo.d r.1 : Nat) : Int)], .int .u8 ((r.2 : Nat) : Int)])] (by kernel_rfl) (by kernel_rfl) (by decide) (by rintro _ w' ⟨i, rfl⟩ hb; exact HJ.out _ ((HW.out i).trans (hb.mono (HW.out i).size))) (HJ.out _ (Below.refl _ _).drew) ?_
            simp only [Go.Flo.pair, Go.Mix.calm, List.take, List.drop, if_true, Bool.false_eq_true, if_false, Nat.reduceAdd, Nat.reduceSub]
            have z1 := fun ii => ((HW.out ii).cell (p := ⟨p1, o1 + i, none⟩) lp1).trans y1
            have z2 := fun ii => ((HW.out ii).cell (p := ⟨p2, o2 + i, none⟩) lp2).trans y2
            skip
            repeat (first | (refine Go.Flo.fw_calm rfl ?_ (fun K hK => ?_); (first | exact Go.Mix.wanted_none rfl | exact Go.Mix.wanted_tt rfl rfl rfl | exact Go.Mix.wanted_ff rfl rfl rfl); refine Go.Flo.quiet_load_row 123 _ rfl _ rfl _ #[.int .u8 ((Mo.m a : Nat) : Int), .int .u16 ((Mo.s a : Nat) : Int), .int .u8 ((Mo.c a : Nat) : Int), .int .u8 ((Mo.n a : Nat) : Int), .int .u8 ((Mo.d a : Nat) : Int)] _ (by rintro _ ⟨i, rfl⟩; exact ((HW.out i).block _ l7).trans b7) Try.underlying123 rfl size_mo ?_; go_simp; refine hK _ ?_; clear hK K) | (refine Go.Flo.fw_calm rfl ?_ (fun K hK => ?_); (first | exact Go.Mix.wanted_none rfl | exact Go.Mix.wanted_tt rfl rfl rfl | exact Go.Mix.wanted_ff rfl rfl rfl); refine Go.Flo.quiet_load_row 126 _ rfl _ rfl _ #[.int .u8 ((Cf.calm c : Nat) : Int), .int .u8 ((Cf.seen c : Nat) : Int), .int .u8 ((Cf.lost c : Nat) : Int), .int .u16 ((Cf.t c 0 : Nat) : Int), .int .u16 ((Cf.t c 1 : Nat) : Int), .int .u16 ((Cf.t c 2 : Nat) : Int), .int .u16 ((Cf.t c 3 : Nat) : Int)] _ (by rintro _ ⟨i, rfl⟩; exact ((HW.out i).block _ l3).trans b3) Try.underlying126 rfl size_cf ?_; go_simp; refine hK _ ?_; clear hK K) | (first | (refine Go.Flo.fw_calm rfl ?_ (fun K hK => ?_); (first | exact Go.Mix.wanted_none rfl | exact Go.Mix.wanted_tt rfl rfl rfl | exact Go.Mix.wanted_ff rfl rfl rfl); go_big_quiet_op; refine hK _ ?_; clear hK K) | (refine Go.Flo.fw_skip ?_ (fun K hK => ?_); (first | exact Go.Mix.wanted_tf rfl rfl rfl | exact Go.Mix.wanted_ft rfl rfl rfl); go_simp; refine hK _ ?_; clear hK K) | (refine Go.Flo.fw_any rfl ?_ (fun K hK => ?_); (first | exact Go.Mix.wanted_none rfl | exact Go.Mix.wanted_tt rfl rfl rfl | exact Go.Mix.wanted_ff rfl rfl rfl); go_simp; (try (go_ints; try go_simp)); refine hK _ ?_; clear hK K)))
            refine Go.Flo.fw_loud rfl ?_ rfl (by simp) (fun wv hwv hav K hK => ?_) (fun v hv K hK => ?_)
            · (first | exact Go.Mix.wanted_none rfl | exact Go.Mix.wanted_tt rfl rfl rfl | exact Go.Mix.wanted_ff rfl rfl rfl)
            · obtain ⟨iv, rfl⟩ := hwv
              have hbv := HW.out iv
              (first | go_big_op | go_simp)
              go_at_call 67
              refine (HS.out _).mono ?_
              rintro e w' ⟨rfl, hb⟩
              exact hK _ _ (Go.Flo.owes_is _ rfl hb)
            obtain rfl := hv.is
            go_simp
            refine hK _ ?_
            clear hK K hv
            (repeat (first | (refine Go.Flo.fw_calm rfl ?_ (fun K hK => ?_); (first | exact Go.Mix.wanted_none rfl | exact Go.Mix.wanted_tt rfl rfl rfl | exact Go.Mix.wanted_ff rfl rfl rfl); go_big_quiet_op; refine hK _ ?_; clear hK K) | (refine Go.Flo.fw_skip ?_ (fun K hK => ?_); (first | exact Go.Mix.wanted_tf rfl rfl rfl | exact Go.Mix.wanted_ft rfl rfl rfl); go_simp; refine hK _ ?_; clear hK K) | (refine Go.Flo.fw_any rfl ?_ (fun K hK => ?_); (first | exact Go.Mix.wanted_none rfl | exact Go.Mix.wanted_tt rfl rfl rfl | exact Go.Mix.wanted_ff rfl rfl rfl); go_simp; (try (go_ints; try go_simp)); refine hK _ ?_; clear hK K)))
            refine Go.Flo.fw_nil ?_
            intro wc hwwc hfwc huwc
            obtain ⟨iend, hiend⟩ := hwwc
            have hbwc := HW.out iend
            rw [← hiend] at hbwc
            clear hiend iend huwc
            have hq := HQ.out.step hbwc
            have r7 := hq.of 1 rfl
            have HV := Lib.hid (hq.put 1 rfl #[.int .u8 ((Mo.m r.1 : Nat) : Int), .int .u16 ((Mo.s r.1 : Nat) : Int), .int .u8 ((Mo.c r.1 : Nat) : Int), .int .u8 ((Mo.n r.1 : Nat) : Int), .int .u8 ((Mo.d r.1 : Nat) : Int)])
            (try clear z1)
            (try clear z2)
            (try clear y1)
            (try clear y2)
            clear hfwc HJ HW hne hbwc b3 b7 l3 l7 hq HQ
            clear W I
            refine ⟨fun _ => True, trivial, ?_⟩

            (refine Go.Mix.walk_loud rfl ?_ (fun K hK => ?_); (first | exact Go.Mix.wanted_none rfl | exact Go.Mix.wanted_tt rfl rfl rfl | exact Go.Mix.wanted_ff rfl rfl rfl); refine wp_store_row 123 _ _ rfl _ #[.int .u8 ((Mo.m r.1 : Nat) : Int), .int .u16 ((Mo.s r.1 : Nat) : Int), .int .u8 ((Mo.c r.1 : Nat) : Int), .int .u8 ((Mo.n r.1 : Nat) : Int), .int .u8 ((Mo.d r.1 : Nat) : Int)] rfl rfl 123 _ r7 size_mo rfl (by simp [Value.oneCell']) (hK _ _ trivial ?_); clear hK K)
            (repeat (first | (refine Go.Mix.walk_calm rfl ?_ (fun K hK => ?_); (first | exact Go.Mix.wanted_none rfl | exact Go.Mix.wanted_tt rfl rfl rfl | exact Go.Mix.wanted_ff rfl rfl rfl); go_big_quiet_op; refine hK _ ?_; clear hK K) | (refine Go.Mix.walk_skip ?_ (fun K hK => ?_); (first | exact Go.Mix.wanted_tf rfl rfl rfl | exact Go.Mix.wanted_ft rfl rfl rfl); go_simp; refine hK _ ?_; clear hK K) | (refine Go.Mix.walk_loud rfl ?_ (fun K hK => ?_); (first | exact Go.Mix.wanted_none rfl | exact Go.Mix.wanted_tt rfl rfl rfl | exact Go.Mix.wanted_ff rfl rfl rfl); (first | go_big_op | go_simp); (first | (refine hK _ _ trivial ?_; clear hK K) | (fail; (try dsimp only); refine hK _ _ trivial ?_; clear hK K))) | (refine Go.Mix.walk_step (fun K hK => ?_); go_simp; (try (go_ints; try go_simp)); refine hK _ _ ?_; clear hK K)))
            refine Go.Mix.walk_nil ?_
            clear r7
            go_wp2_with fail
            go_roundw
            case rel =>
              refine ⟨i + 1, r.1, by omega, HRO.out, ?_, by go_num, HV.out⟩
              have h1 := HON.out.2
              rcases HSL.out with h | ⟨h, h2⟩
              · exact .inl h
              · exact .inr ⟨h, by omega⟩
            case measure => simp [intOf]; omega
          · skip
            have b3 := HQ.out.of 0 rfl
            have b7 := HQ.out.of 1 rfl
            have l3 := box_lt b3
            have l7 := box_lt b7
            have HS := Lib.hid (fun w => Step_any a c (f1 i) false false w HA.out HC.out)
            have HRO := Lib.hid (step_ok HA.out c (f1 i) false false)
            have HSL := Lib.hid (step_left (f1 i) false HT.out.1.1 HT.out.2.1 HT.out.1.2 HT.out.2.2 HON.out.1)
            obtain ⟨r, hr⟩ : ∃ r, stepM a c (f1 i) false false = r := ⟨_, rfl⟩
            rw [hr] at HS HRO HSL
            clear hr
            obtain ⟨I, W, hne, hWI, hIW⟩ := Go.Mix.family (fun v => Below wr.heap.size wr v) (Below.refl _ _)
            have HJ := Lib.hid hIW
            have HW := Lib.hid hWI
            clear hWI hIW
            refine Go.Flo3.wp_region (fun w' => ∃ i, w' = W i) 26 [Go.Flo.Spec.is (.tuple #[.agg #[.int .u8 ((Mo.m r.1 : Nat) : Int), .int .u16 ((Mo.s r.1 : Nat) : Int), .int .u8 ((Mo.c r.1 : Nat) : Int), .int .u8 ((Mo.n r.1 : Nat) : Int), .int .u8 ((Mo.d r.1 : Nat) : Int)], .int .u8 ((r.2 : Nat) : Int)])] (by kernel_rfl) (by kernel_rfl) (by decide) (by rintro _ w' ⟨i, rfl⟩ hb; exact HJ.out _ ((HW.out i).trans (hb.mono (HW.out i).size))) (HJ.out _ (Below.refl _ _).drew) ?_
            simp only [Go.Flo.pair, Go.Mix.calm, List.take, List.drop, if_true, Bool.false_eq_true, if_false, Nat.reduceAdd, Nat.reduceSub]
            have z1 := fun ii => ((HW.out ii).cell (p := ⟨p1, o1 + i, none⟩) lp1).trans y1
            skip
            repeat (first | (refine Go.Flo.fw_calm rfl ?_ (fun K hK => ?_); (first | exact Go.Mix.wanted_none rfl | exact Go.Mix.wanted_tt rfl rfl rfl | exact Go.Mix.wanted_ff rfl rfl rfl); refine Go.Flo.quiet_load_row 123 _ rfl _ rfl _ #[.int .u8 ((Mo.m a : Nat) : Int), .int .u16 ((Mo.s a : Nat) : Int), .int .u8 ((Mo.c a : Nat) : Int), .int .u8 ((Mo.n a : Nat) : Int), .int .u8 ((Mo.d a : Nat) : Int)] _ (by rintro _ ⟨i, rfl⟩; exact ((HW.out i).block _ l7).trans b7) Try.underlying123 rfl size_mo ?_; go_simp; refine hK _ ?_; clear hK K) | (refine Go.Flo.fw_calm rfl ?_ (fun K hK => ?_); (first | exact Go.Mix.wanted_none rfl | exact Go.Mix.wanted_tt rfl rfl rfl | exact Go.Mix.wanted_ff rfl rfl rfl); refine Go.Flo.quiet_load_row 126 _ rfl _ rfl _ #[.int .u8 ((Cf.calm c : Nat) : Int), .int .u8 ((Cf.seen c : Nat) : Int), .int .u8 ((Cf.lost c : Nat) : Int), .int .u16 ((Cf.t c 0 : Nat) : Int), .int .u16 ((Cf.t c 1 : Nat) : Int), .int .u16 ((Cf.t c 2 : Nat) : Int), .int .u16 ((Cf.t c 3 : Nat) : Int)] _ (by rintro _ ⟨i, rfl⟩; exact ((HW.out i).block _ l3).trans b3) Try.underlying126 rfl size_cf ?_; go_simp; refine hK _ ?_; clear hK K) | (first | (refine Go.Flo.fw_calm rfl ?_ (fun K hK => ?_); (first | exact Go.Mix.wanted_none rfl | exact Go.Mix.wanted_tt rfl rfl rfl | exact Go.Mix.wanted_ff rfl rfl rfl); go_big_quiet_op; refine hK _ ?_; clear hK K) | (refine Go.Flo.fw_skip ?_ (fun K hK => ?_); (first | exact Go.Mix.wanted_tf rfl rfl rfl | exact Go.Mix.wanted_ft rfl rfl rfl); go_simp; refine hK _ ?_; clear hK K) | (refine Go.Flo.fw_any rfl ?_ (fun K hK => ?_); (first | exact Go.Mix.wanted_none rfl | exact Go.Mix.wanted_tt rfl rfl rfl | exact Go.Mix.wanted_ff rfl rfl rfl); go_simp; (try (go_ints; try go_simp)); refine hK _ ?_; clear hK K)))
            refine Go.Flo.fw_loud rfl ?_ rfl (by simp) (fun wv hwv hav K hK => ?_) (fun v hv K hK => ?_)
            · (first | exact Go.Mix.wanted_none rfl | exact Go.Mix.wanted_tt rfl rfl rfl | exact Go.Mix.wanted_ff rfl rfl rfl)
            · obtain ⟨iv, rfl⟩ := hwv
              have hbv := HW.out iv
              (first | go_big_op | go_simp)
              go_at_call 67
              refine (HS.out _).mono ?_
              rintro e w' ⟨rfl, hb⟩
              exact hK _ _ (Go.Flo.owes_is _ rfl hb)
            obtain rfl := hv.is
            go_simp
            refine hK _ ?_
            clear hK K hv
            (repeat (first | (refine Go.Flo.fw_calm rfl ?_ (fun K hK => ?_); (first | exact Go.Mix.wanted_none rfl | exact Go.Mix.wanted_tt rfl rfl rfl | exact Go.Mix.wanted_ff rfl rfl rfl); go_big_quiet_op; refine hK _ ?_; clear hK K) | (refine Go.Flo.fw_skip ?_ (fun K hK => ?_); (first | exact Go.Mix.wanted_tf rfl rfl rfl | exact Go.Mix.wanted_ft rfl rfl rfl); go_simp; refine hK _ ?_; clear hK K) | (refine Go.Flo.fw_any rfl ?_ (fun K hK => ?_); (first | exact Go.Mix.wanted_none rfl | exact Go.Mix.wanted_tt rfl rfl rfl | exact Go.Mix.wanted_ff rfl rfl rfl); go_simp; (try (go_ints; try go_simp)); refine hK _ ?_; clear hK K)))
            refine Go.Flo.fw_nil ?_
            intro wc hwwc hfwc huwc
            obtain ⟨iend, hiend⟩ := hwwc
            have hbwc := HW.out iend
            rw [← hiend] at hbwc
            clear hiend iend huwc
            have hq := HQ.out.step hbwc
            have r7 := hq.of 1 rfl
            have HV := Lib.hid (hq.put 1 rfl #[.int .u8 ((Mo.m r.1 : Nat) : Int), .int .u16 ((Mo.s r.1 : Nat) : Int), .int .u8 ((Mo.c r.1 : Nat) : Int), .int .u8 ((Mo.n r.1 : Nat) : Int), .int .u8 ((Mo.d r.1 : Nat) : Int)])
            (try clear z1)
            (try clear z2)
            (try clear y1)
            (try clear y2)
            clear hfwc HJ HW hne hbwc b3 b7 l3 l7 hq HQ
            clear W I
            refine ⟨fun _ => True, trivial, ?_⟩

            (refine Go.Mix.walk_loud rfl ?_ (fun K hK => ?_); (first | exact Go.Mix.wanted_none rfl | exact Go.Mix.wanted_tt rfl rfl rfl | exact Go.Mix.wanted_ff rfl rfl rfl); refine wp_store_row 123 _ _ rfl _ #[.int .u8 ((Mo.m r.1 : Nat) : Int), .int .u16 ((Mo.s r.1 : Nat) : Int), .int .u8 ((Mo.c r.1 : Nat) : Int), .int .u8 ((Mo.n r.1 : Nat) : Int), .int .u8 ((Mo.d r.1 : Nat) : Int)] rfl rfl 123 _ r7 size_mo rfl (by simp [Value.oneCell']) (hK _ _ trivial ?_); clear hK K)
            (repeat (first | (refine Go.Mix.walk_calm rfl ?_ (fun K hK => ?_); (first | exact Go.Mix.wanted_none rfl | exact Go.Mix.wanted_tt rfl rfl rfl | exact Go.Mix.wanted_ff rfl rfl rfl); go_big_quiet_op; refine hK _ ?_; clear hK K) | (refine Go.Mix.walk_skip ?_ (fun K hK => ?_); (first | exact Go.Mix.wanted_tf rfl rfl rfl | exact Go.Mix.wanted_ft rfl rfl rfl); go_simp; refine hK _ ?_; clear hK K) | (refine Go.Mix.walk_loud rfl ?_ (fun K hK => ?_); (first | exact Go.Mix.wanted_none rfl | exact Go.Mix.wanted_tt rfl rfl rfl | exact Go.Mix.wanted_ff rfl rfl rfl); (first | go_big_op | go_simp); (first | (refine hK _ _ trivial ?_; clear hK K) | (fail; (try dsimp only); refine hK _ _ trivial ?_; clear hK K))) | (refine Go.Mix.walk_step (fun K hK => ?_); go_simp; (try (go_ints; try go_simp)); refine hK _ _ ?_; clear hK K)))
            refine Go.Mix.walk_nil ?_
            clear r7
            go_wp2_with fail
            go_roundw
            case rel =>
              refine ⟨i + 1, r.1, by omega, HRO.out, ?_, by go_num, HV.out⟩
              have h1 := HON.out.2
              rcases HSL.out with h | ⟨h, h2⟩
              · exact .inl h
              · exact .inr ⟨h, by omega⟩
            case measure => simp [intOf]; omega
        · by_cases g2 : i < len2
          · obtain ⟨p2, o2, rfl, hp2, hx2⟩ := HF2.out.at_ (by omega)
            have y2 := (HQ.out.be.cell (p := ⟨p2, o2 + i, none⟩) hp2).trans (hx2 i g2)
            have lp2 : p2 < wr.heap.size := Nat.lt_of_lt_of_le hp2 HQ.out.be.size
            clear hx2
            skip
            have b3 := HQ.out.of 0 rfl
            have b7 := HQ.out.of 1 rfl
            have l3 := box_lt b3
            have l7 := box_lt b7
            have HS := Lib.hid (fun w => Step_any a c false (f2 i) false w HA.out HC.out)
            have HRO := Lib.hid (step_ok HA.out c false (f2 i) false)
            have HSL := Lib.hid (step_left false (f2 i) HT.out.1.1 HT.out.2.1 HT.out.1.2 HT.out.2.2 HON.out.1)
            obtain ⟨r, hr⟩ : ∃ r, stepM a c false (f2 i) false = r := ⟨_, rfl⟩
            rw [hr] at HS HRO HSL
            clear hr
            obtain ⟨I, W, hne, hWI, hIW⟩ := Go.Mix.family (fun v => Below wr.heap.size wr v) (Below.refl _ _)
            have HJ := Lib.hid hIW
            have HW := Lib.hid hWI
            clear hWI hIW
            refine Go.Flo3.wp_region (fun w' => ∃ i, w' = W i) 26 [Go.Flo.Spec.is (.tuple #[.agg #[.int .u8 ((Mo.m r.1 : Nat) : Int), .int .u16 ((Mo.s r.1 : Nat) : Int), .int .u8 ((Mo.c r.1 : Nat) : Int), .int .u8 ((Mo.n r.1 : Nat) : Int), .int .u8 ((Mo.d r.1 : Nat) : Int)], .int .u8 ((r.2 : Nat) : Int)])] (by kernel_rfl) (by kernel_rfl) (by decide) (by rintro _ w' ⟨i, rfl⟩ hb; exact HJ.out _ ((HW.out i).trans (hb.mono (HW.out i).size))) (HJ.out _ (Below.refl _ _).drew) ?_
            simp only [Go.Flo.pair, Go.Mix.calm, List.take, List.drop, if_true, Bool.false_eq_true, if_false, Nat.reduceAdd, Nat.reduceSub]
            have z2 := fun ii => ((HW.out ii).cell (p := ⟨p2, o2 + i, none⟩) lp2).trans y2
            skip
            repeat (first | (refine Go.Flo.fw_calm rfl ?_ (fun K hK => ?_); (first | exact Go.Mix.wanted_none rfl | exact Go.Mix.wanted_tt rfl rfl rfl | exact Go.Mix.wanted_ff rfl rfl rfl); refine Go.Flo.quiet_load_row 123 _ rfl _ rfl _ #[.int .u8 ((Mo.m a : Nat) : Int), .int .u16 ((Mo.s a : Nat) : Int), .int .u8 ((Mo.c a : Nat) : Int), .int .u8 ((Mo.n a : Nat) : Int), .int .u8 ((Mo.d a : Nat) : Int)] _ (by rintro _ ⟨i, rfl⟩; exact ((HW.out i).block _ l7).trans b7) Try.underlying123 rfl size_mo ?_; go_simp; refine hK _ ?_; clear hK K) | (refine Go.Flo.fw_calm rfl ?_ (fun K hK => ?_); (first | exact Go.Mix.wanted_none rfl | exact Go.Mix.wanted_tt rfl rfl rfl | exact Go.Mix.wanted_ff rfl rfl rfl); refine Go.Flo.quiet_load_row 126 _ rfl _ rfl _ #[.int .u8 ((Cf.calm c : Nat) : Int), .int .u8 ((Cf.seen c : Nat) : Int), .int .u8 ((Cf.lost c : Nat) : Int), .int .u16 ((Cf.t c 0 : Nat) : Int), .int .u16 ((Cf.t c 1 : Nat) : Int), .int .u16 ((Cf.t c 2 : Nat) : Int), .int .u16 ((Cf.t c 3 : Nat) : Int)] _ (by rintro _ ⟨i, rfl⟩; exact ((HW.out i).block _ l3).trans b3) Try.underlying126 rfl size_cf ?_; go_simp; refine hK _ ?_; clear hK K) | (first | (refine Go.Flo.fw_calm rfl ?_ (fun K hK => ?_); (first | exact Go.Mix.wanted_none rfl | exact Go.Mix.wanted_tt rfl rfl rfl | exact Go.Mix.wanted_ff rfl rfl rfl); go_big_quiet_op; refine hK _ ?_; clear hK K) | (refine Go.Flo.fw_skip ?_ (fun K hK => ?_); (first | exact Go.Mix.wanted_tf rfl rfl rfl | exact Go.Mix.wanted_ft rfl rfl rfl); go_simp; refine hK _ ?_; clear hK K) | (refine Go.Flo.fw_any rfl ?_ (fun K hK => ?_); (first | exact Go.Mix.wanted_none rfl | exact Go.Mix.wanted_tt rfl rfl rfl | exact Go.Mix.wanted_ff rfl rfl rfl); go_simp; (try (go_ints; try go_simp)); refine hK _ ?_; clear hK K)))
            refine Go.Flo.fw_loud rfl ?_ rfl (by simp) (fun wv hwv hav K hK => ?_) (fun v hv K hK => ?_)
            · (first | exact Go.Mix.wanted_none rfl | exact Go.Mix.wanted_tt rfl rfl rfl | exact Go.Mix.wanted_ff rfl rfl rfl)
            · obtain ⟨iv, rfl⟩ := hwv
              have hbv := HW.out iv
              (first | go_big_op | go_simp)
              go_at_call 67
              refine (HS.out _).mono ?_
              rintro e w' ⟨rfl, hb⟩
              exact hK _ _ (Go.Flo.owes_is _ rfl hb)
            obtain rfl := hv.is
            go_simp
            refine hK _ ?_
            clear hK K hv
            (repeat (first | (refine Go.Flo.fw_calm rfl ?_ (fun K hK => ?_); (first | exact Go.Mix.wanted_none rfl | exact Go.Mix.wanted_tt rfl rfl rfl | exact Go.Mix.wanted_ff rfl rfl rfl); go_big_quiet_op; refine hK _ ?_; clear hK K) | (refine Go.Flo.fw_skip ?_ (fun K hK => ?_); (first | exact Go.Mix.wanted_tf rfl rfl rfl | exact Go.Mix.wanted_ft rfl rfl rfl); go_simp; refine hK _ ?_; clear hK K) | (refine Go.Flo.fw_any rfl ?_ (fun K hK => ?_); (first | exact Go.Mix.wanted_none rfl | exact Go.Mix.wanted_tt rfl rfl rfl | exact Go.Mix.wanted_ff rfl rfl rfl); go_simp; (try (go_ints; try go_simp)); refine hK _ ?_; clear hK K)))
            refine Go.Flo.fw_nil ?_
            intro wc hwwc hfwc huwc
            obtain ⟨iend, hiend⟩ := hwwc
            have hbwc := HW.out iend
            rw [← hiend] at hbwc
            clear hiend iend huwc
            have hq := HQ.out.step hbwc
            have r7 := hq.of 1 rfl
            have HV := Lib.hid (hq.put 1 rfl #[.int .u8 ((Mo.m r.1 : Nat) : Int), .int .u16 ((Mo.s r.1 : Nat) : Int), .int .u8 ((Mo.c r.1 : Nat) : Int), .int .u8 ((Mo.n r.1 : Nat) : Int), .int .u8 ((Mo.d r.1 : Nat) : Int)])
            (try clear z1)
            (try clear z2)
            (try clear y1)
            (try clear y2)
            clear hfwc HJ HW hne hbwc b3 b7 l3 l7 hq HQ
            clear W I
            refine ⟨fun _ => True, trivial, ?_⟩

            (refine Go.Mix.walk_loud rfl ?_ (fun K hK => ?_); (first | exact Go.Mix.wanted_none rfl | exact Go.Mix.wanted_tt rfl rfl rfl | exact Go.Mix.wanted_ff rfl rfl rfl); refine wp_store_row 123 _ _ rfl _ #[.int .u8 ((Mo.m r.1 : Nat) : Int), .int .u16 ((Mo.s r.1 : Nat) : Int), .int .u8 ((Mo.c r.1 : Nat) : Int), .int .u8 ((Mo.n r.1 : Nat) : Int), .int .u8 ((Mo.d r.1 : Nat) : Int)] rfl rfl 123 _ r7 size_mo rfl (by simp [Value.oneCell']) (hK _ _ trivial ?_); clear hK K)
            (repeat (first | (refine Go.Mix.walk_calm rfl ?_ (fun K hK => ?_); (first | exact Go.Mix.wanted_none rfl | exact Go.Mix.wanted_tt rfl rfl rfl | exact Go.Mix.wanted_ff rfl rfl rfl); go_big_quiet_op; refine hK _ ?_; clear hK K) | (refine Go.Mix.walk_skip ?_ (fun K hK => ?_); (first | exact Go.Mix.wanted_tf rfl rfl rfl | exact Go.Mix.wanted_ft rfl rfl rfl); go_simp; refine hK _ ?_; clear hK K) | (refine Go.Mix.walk_loud rfl ?_ (fun K hK => ?_); (first | exact Go.Mix.wanted_none rfl | exact Go.Mix.wanted_tt rfl rfl rfl | exact Go.Mix.wanted_ff rfl rfl rfl); (first | go_big_op | go_simp); (first | (refine hK _ _ trivial ?_; clear hK K) | (fail; (try dsimp only); refine hK _ _ trivial ?_; clear hK K))) | (refine Go.Mix.walk_step (fun K hK => ?_); go_simp; (try (go_ints; try go_simp)); refine hK _ _ ?_; clear hK K)))
            refine Go.Mix.walk_nil ?_
            clear r7
            go_wp2_with fail
            go_roundw
            case rel =>
              refine ⟨i + 1, r.1, by omega, HRO.out, ?_, by go_num, HV.out⟩
              have h1 := HON.out.2
              rcases HSL.out with h | ⟨h, h2⟩
              · exact .inl h
              · exact .inr ⟨h, by omega⟩
            case measure => simp [intOf]; omega
          · skip
            have b3 := HQ.out.of 0 rfl
            have b7 := HQ.out.of 1 rfl
            have l3 := box_lt b3
            have l7 := box_lt b7
            have HS := Lib.hid (fun w => Step_any a c false false false w HA.out HC.out)
            have HRO := Lib.hid (step_ok HA.out c false false false)
            have HSL := Lib.hid (step_left false false HT.out.1.1 HT.out.2.1 HT.out.1.2 HT.out.2.2 HON.out.1)
            obtain ⟨r, hr⟩ : ∃ r, stepM a c false false false = r := ⟨_, rfl⟩
            rw [hr] at HS HRO HSL
            clear hr
            obtain ⟨I, W, hne, hWI, hIW⟩ := Go.Mix.family (fun v => Below wr.heap.size wr v) (Below.refl _ _)
            have HJ := Lib.hid hIW
            have HW := Lib.hid hWI
            clear hWI hIW
            refine Go.Flo3.wp_region (fun w' => ∃ i, w' = W i) 26 [Go.Flo.Spec.is (.tuple #[.agg #[.int .u8 ((Mo.m r.1 : Nat) : Int), .int .u16 ((Mo.s r.1 : Nat) : Int), .int .u8 ((Mo.c r.1 : Nat) : Int), .int .u8 ((Mo.n r.1 : Nat) : Int), .int .u8 ((Mo.d r.1 : Nat) : Int)], .int .u8 ((r.2 : Nat) : Int)])] (by kernel_rfl) (by kernel_rfl) (by decide) (by rintro _ w' ⟨i, rfl⟩ hb; exact HJ.out _ ((HW.out i).trans (hb.mono (HW.out i).size))) (HJ.out _ (Below.refl _ _).drew) ?_
            simp only [Go.Flo.pair, Go.Mix.calm, List.take, List.drop, if_true, Bool.false_eq_true, if_false, Nat.reduceAdd, Nat.reduceSub]
            skip
            repeat (first | (refine Go.Flo.fw_calm rfl ?_ (fun K hK => ?_); (first | exact Go.Mix.wanted_none rfl | exact Go.Mix.wanted_tt rfl rfl rfl | exact Go.Mix.wanted_ff rfl rfl rfl); refine Go.Flo.quiet_load_row 123 _ rfl _ rfl _ #[.int .u8 ((Mo.m a : Nat) : Int), .int .u16 ((Mo.s a : Nat) : Int), .int .u8 ((Mo.c a : Nat) : Int), .int .u8 ((Mo.n a : Nat) : Int), .int .u8 ((Mo.d a : Nat) : Int)] _ (by rintro _ ⟨i, rfl⟩; exact ((HW.out i).block _ l7).trans b7) Try.underlying123 rfl size_mo ?_; go_simp; refine hK _ ?_; clear hK K) | (refine Go.Flo.fw_calm rfl ?_ (fun K hK => ?_); (first | exact Go.Mix.wanted_none rfl | exact Go.Mix.wanted_tt rfl rfl rfl | exact Go.Mix.wanted_ff rfl rfl rfl); refine Go.Flo.quiet_load_row 126 _ rfl _ rfl _ #[.int .u8 ((Cf.calm c : Nat) : Int), .int .u8 ((Cf.seen c : Nat) : Int), .int .u8 ((Cf.lost c : Nat) : Int), .int .u16 ((Cf.t c 0 : Nat) : Int), .int .u16 ((Cf.t c 1 : Nat) : Int), .int .u16 ((Cf.t c 2 : Nat) : Int), .int .u16 ((Cf.t c 3 : Nat) : Int)] _ (by rintro _ ⟨i, rfl⟩; exact ((HW.out i).block _ l3).trans b3) Try.underlying126 rfl size_cf ?_; go_simp; refine hK _ ?_; clear hK K) | (first | (refine Go.Flo.fw_calm rfl ?_ (fun K hK => ?_); (first | exact Go.Mix.wanted_none rfl | exact Go.Mix.wanted_tt rfl rfl rfl | exact Go.Mix.wanted_ff rfl rfl rfl); go_big_quiet_op; refine hK _ ?_; clear hK K) | (refine Go.Flo.fw_skip ?_ (fun K hK => ?_); (first | exact Go.Mix.wanted_tf rfl rfl rfl | exact Go.Mix.wanted_ft rfl rfl rfl); go_simp; refine hK _ ?_; clear hK K) | (refine Go.Flo.fw_any rfl ?_ (fun K hK => ?_); (first | exact Go.Mix.wanted_none rfl | exact Go.Mix.wanted_tt rfl rfl rfl | exact Go.Mix.wanted_ff rfl rfl rfl); go_simp; (try (go_ints; try go_simp)); refine hK _ ?_; clear hK K)))
            refine Go.Flo.fw_loud rfl ?_ rfl (by simp) (fun wv hwv hav K hK => ?_) (fun v hv K hK => ?_)
            · (first | exact Go.Mix.wanted_none rfl | exact Go.Mix.wanted_tt rfl rfl rfl | exact Go.Mix.wanted_ff rfl rfl rfl)
            · obtain ⟨iv, rfl⟩ := hwv
              have hbv := HW.out iv
              (first | go_big_op | go_simp)
              go_at_call 67
              refine (HS.out _).mono ?_
              rintro e w' ⟨rfl, hb⟩
              exact hK _ _ (Go.Flo.owes_is _ rfl hb)
            obtain rfl := hv.is
            go_simp
            refine hK _ ?_
            clear hK K hv
            (repeat (first | (refine Go.Flo.fw_calm rfl ?_ (fun K hK => ?_); (first | exact Go.Mix.wanted_none rfl | exact Go.Mix.wanted_tt rfl rfl rfl | exact Go.Mix.wanted_ff rfl rfl rfl); go_big_quiet_op; refine hK _ ?_; clear hK K) | (refine Go.Flo.fw_skip ?_ (fun K hK => ?_); (first | exact Go.Mix.wanted_tf rfl rfl rfl | exact Go.Mix.wanted_ft rfl rfl rfl); go_simp; refine hK _ ?_; clear hK K) | (refine Go.Flo.fw_any rfl ?_ (fun K hK => ?_); (first | exact Go.Mix.wanted_none rfl | exact Go.Mix.wanted_tt rfl rfl rfl | exact Go.Mix.wanted_ff rfl rfl rfl); go_simp; (try (go_ints; try go_simp)); refine hK _ ?_; clear hK K)))
            refine Go.Flo.fw_nil ?_
            intro wc hwwc hfwc huwc
            obtain ⟨iend, hiend⟩ := hwwc
            have hbwc := HW.out iend
            rw [← hiend] at hbwc
            clear hiend iend huwc
            have hq := HQ.out.step hbwc
            have r7 := hq.of 1 rfl
            have HV := Lib.hid (hq.put 1 rfl #[.int .u8 ((Mo.m r.1 : Nat) : Int), .int .u16 ((Mo.s r.1 : Nat) : Int), .int .u8 ((Mo.c r.1 : Nat) : Int), .int .u8 ((Mo.n r.1 : Nat) : Int), .int .u8 ((Mo.d r.1 : Nat) : Int)])
            (try clear z1)
            (try clear z2)
            (try clear y1)
            (try clear y2)
            clear hfwc HJ HW hne hbwc b3 b7 l3 l7 hq HQ
            clear W I
            refine ⟨fun _ => True, trivial, ?_⟩

            (refine Go.Mix.walk_loud rfl ?_ (fun K hK => ?_); (first | exact Go.Mix.wanted_none rfl | exact Go.Mix.wanted_tt rfl rfl rfl | exact Go.Mix.wanted_ff rfl rfl rfl); refine wp_store_row 123 _ _ rfl _ #[.int .u8 ((Mo.m r.1 : Nat) : Int), .int .u16 ((Mo.s r.1 : Nat) : Int), .int .u8 ((Mo.c r.1 : Nat) : Int), .int .u8 ((Mo.n r.1 : Nat) : Int), .int .u8 ((Mo.d r.1 : Nat) : Int)] rfl rfl 123 _ r7 size_mo rfl (by simp [Value.oneCell']) (hK _ _ trivial ?_); clear hK K)
            (repeat (first | (refine Go.Mix.walk_calm rfl ?_ (fun K hK => ?_); (first | exact Go.Mix.wanted_none rfl | exact Go.Mix.wanted_tt rfl rfl rfl | exact Go.Mix.wanted_ff rfl rfl rfl); go_big_quiet_op; refine hK _ ?_; clear hK K) | (refine Go.Mix.walk_skip ?_ (fun K hK => ?_); (first | exact Go.Mix.wanted_tf rfl rfl rfl | exact Go.Mix.wanted_ft rfl rfl rfl); go_simp; refine hK _ ?_; clear hK K) | (refine Go.Mix.walk_loud rfl ?_ (fun K hK => ?_); (first | exact Go.Mix.wanted_none rfl | exact Go.Mix.wanted_tt rfl rfl rfl | exact Go.Mix.wanted_ff rfl rfl rfl); (first | go_big_op | go_simp); (first | (refine hK _ _ trivial ?_; clear hK K) | (fail; (try dsimp only); refine hK _ _ trivial ?_; clear hK K))) | (refine Go.Mix.walk_step (fun K hK => ?_); go_simp; (try (go_ints; try go_simp)); refine hK _ _ ?_; clear hK K)))
            refine Go.Mix.walk_nil ?_
            clear r7
            go_wp2_with fail
            go_roundw
            case rel =>
              refine ⟨i + 1, r.1, by omega, HRO.out, ?_, by go_num, HV.out⟩
              have h1 := HON.out.2
              rcases HSL.out with h | ⟨h, h2⟩
              · exact .inl h
              · exact .inr ⟨h, by omega⟩
            case measure => simp [intOf]; omega
    · obtain rfl : i = c.t 1 + c.t 2 := by omega
      have hdn : am = 0 ∨ (am = 2 ∧ c.seen ≤ a.n) := by
        rcases hday with h | ⟨_, h2, h3⟩
        · exact h
        · omega
      clear hday hlt hi
      rcases hdn with rfl | ⟨rfl, h1⟩
      · go_wp2
        go_ret
        exact ⟨rfl, HQ.out.be⟩
      · go_wp2
        go_ret
        exact ⟨rfl, HQ.out.be⟩
end Go.Proofs.Ytnjkpamjjdkmoaa
