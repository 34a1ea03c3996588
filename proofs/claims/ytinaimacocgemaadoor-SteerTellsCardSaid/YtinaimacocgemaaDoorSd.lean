/- Layer 23, over the wheels' axes: shares. -/
import Derived.Test.YtinaimacocgemaaDoorDw
import Derived.Test.YtinaimacocgemaaDoorBx
import Derived.Test.YtinaimacocgemaaDoorSt
import Derived.Test.YtinaimacocgemaaDoorBs
import Derived.Deep.MidRow
namespace Go.Flo
theorem quiet_load_midS {P : Program} {C : World → Prop} {o : Oper} {a : Act} {K : Act → Prop} (ty : TypeId) (x : Operand) (ho : o.op = .load ty x) (b off : Nat) (hx : a.eval x = .pointer (some ⟨b, off, none⟩)) (cs : List Value) {d : TypeDesc}
    (hg : ∀ w, C w → w.rangeAt b off cs) (hu : P.underlying ty = some d) (hd : d.isRow = true) (hi : (P.info? ty).map (·.size) = some cs.length)
    (h : K (a.put o.dst (.agg cs.toArray))) : o.quiet P a C K := by
  refine ⟨.agg cs.toArray, fun w hw => ?_, h⟩
  unfold Oper.quietAt execOp
  simp only [ho, hx, Instr.loadAt, Instr.sureAddr, Sem.run_bind, Sem.run_pure, Result.andThen_ok, run_loadVar_mid w b off ty cs d (hg w hw) hu hd hi]
  exact ⟨rfl, rfl⟩
end Go.Flo
namespace Go.Proofs.YtinaimacocgemaaDoor
open Go.RowKit Go.Own Bs
set_option linter.unusedVariables false
set_option linter.unusedSimpArgs false
theorem size_qc : (Tryd.prog.info? 27).map (·.size) = some 4 := by kernel_rfl
theorem zero_qc (w : World) : (zeroValue 27).run Tryd.prog w = .ok (.agg #[.int .i32 0, .int .i32 0, .int .i32 0, .int .i32 0]) w := by kernel_rfl
theorem wa_bd (i j : Nat) (hi : i < 4) (hj : j < 3) : -1 ≤ wa i j ∧ wa i j ≤ 1 := by
  rcases (by omega : i = 0 ∨ i = 1 ∨ i = 2 ∨ i = 3) with rfl | rfl | rfl | rfl <;> rcases (by omega : j = 0 ∨ j = 1 ∨ j = 2) with rfl | rfl | rfl <;> decide
@[go_sem] theorem idx0D (w : World) (x y z : Int) : (Instr.index 23 (.agg #[.int .i32 x, .int .i32 y, .int .i32 z]) (.int .i64 0)).run Tryd.prog w = .ok (.int .i32 x) w := by kernel_rfl
set_option maxHeartbeats 400000 in
theorem limited_any (n m : Int) (w : World) (h0 : -2147483648 ≤ m) (h1 : m ≤ 2147483647) : Calls Tryd.prog 22 #[.int .i32 n, .int .i32 m] w fun e w' => e = .returned (.int .i32 (Fx.clamp n (-(max m 0)) (max m 0))) ∧ Below w.heap.size w w' := by
  obtain ⟨x, hx⟩ : ∃ x, x = Fx.clamp n (-(max m 0)) (max m 0) := ⟨_, rfl⟩
  obtain ⟨y, hy⟩ : ∃ y, y = Fx.clamp 0 (-(max m 0)) (max m 0) := ⟨_, rfl⟩
  have hc := fun w => vClamp_any n 0 0 m w h0 h1
  rw [← hx, ← hy] at hc
  rw [← hx]
  have HC := Lib.hid hc
  clear hc hx hy
  go_enter Tryd.func22, Tryd.ntmps22
  go_wp2_with (go_at_call 33; refine (HC.out _).mono ?_; rintro e w1 ⟨rfl, hb⟩)
  go_ret
  exact ⟨rfl, hb⟩
/-- The inner product with an axis. -/
def dotW (t : Nat → Int) (k : Nat) : Int := Fx.sums [wa k 0 * t 0, wa k 1 * t 1, wa k 2 * t 2]
/-- A wheel's share. -/
def shW (t : Nat → Int) (m : Int) (k : Nat) : Int := Fx.clamp (Fx.sat (dotW t k / 4)) (-(max m 0)) (max m 0)
def shF (t : Nat → Int) (s : Nat) (m : Int) (k : Nat) : Int := if s &&& bit1 k ≠ 0 then shW t m k else 0
def shP (t : Nat → Int) (s : Nat) (m : Int) (n : Nat) (k : Nat) : Int := if k < n then shF t s m k else 0
theorem shP_no {t : Nat → Int} {s : Nat} {m : Int} {n : Nat} (h : shF t s m n = 0) : shP t s m n = shP t s m (n + 1) := by
  funext k
  unfold shP
  by_cases e : k = n
  · rw [if_neg (by omega), if_pos (by omega), e, h]
  · by_cases h2 : k < n
    · rw [if_pos h2, if_pos (by omega)]
    · rw [if_neg h2, if_neg (by omega)]
theorem shP_set (t : Nat → Int) (s : Nat) (m : Int) {n : Nat} (hn : n < 4) : (#[.int .i32 (shP t s m n 0), .int .i32 (shP t s m n 1), .int .i32 (shP t s m n 2), .int .i32 (shP t s m n 3)] : Array Value).setIfInBounds n (.int .i32 (shF t s m n)) = #[.int .i32 (shP t s m (n + 1) 0), .int .i32 (shP t s m (n + 1) 1), .int .i32 (shP t s m (n + 1) 2), .int .i32 (shP t s m (n + 1) 3)] := by
  rcases (by omega : n = 0 ∨ n = 1 ∨ n = 2 ∨ n = 3) with rfl | rfl | rfl | rfl <;> rfl
theorem shP_all (t : Nat → Int) (s : Nat) (m : Int) : (#[.int .i32 (shP t s m 4 0), .int .i32 (shP t s m 4 1), .int .i32 (shP t s m 4 2), .int .i32 (shP t s m 4 3)] : Array Value) = #[.int .i32 (shF t s m 0), .int .i32 (shF t s m 1), .int .i32 (shF t s m 2), .int .i32 (shF t s m 3)] := rfl
theorem shP_none (t : Nat → Int) (s : Nat) (m : Int) : (#[.int .i32 0, .int .i32 0, .int .i32 0, .int .i32 0] : Array Value) = #[.int .i32 (shP t s m 0 0), .int .i32 (shP t s m 0 1), .int .i32 (shP t s m 0 2), .int .i32 (shP t s m 0 3)] := rfl
theorem wax_drewD {w : World} (h : WAx w) : WAx w.drew := ⟨h.lt, h.c⟩
theorem wax_range {w : World} (h : WAx w) {k : Nat} (hk : k < 4) : w.rangeAt 0 (k * 3) [.int .i32 (wa k 0), .int .i32 (wa k 1), .int .i32 (wa k 2)] := fun j v hj => by
  match j, hj with
  | 0, h0 => cases h0; exact h.c k hk 0 (by decide)
  | 1, h0 => cases h0; exact h.c k hk 1 (by decide)
  | 2, h0 => cases h0; exact h.c k hk 2 (by decide)
  | n + 3, h0 => simp at h0
set_option maxRecDepth 100000 in
set_option maxHeartbeats 4000000 in
theorem Share_any (t : Nat → Int) (s : Nat) (m : Int) (w : World) (ht : In3 t) (hs : s < 65536) (hm0 : -2147483648 ≤ m) (hm1 : m ≤ 2147483647) (hG : WAx w) :
    Calls Tryd.prog 7 #[.agg #[.int .i32 (t 0), .int .i32 (t 1), .int .i32 (t 2)], .int .u16 (s : Nat), .int .i32 m] w fun e w' => e = .returned (.agg #[.int .i32 (shF t s m 0), .int .i32 (shF t s m 1), .int .i32 (shF t s m 2), .int .i32 (shF t s m 3)]) ∧ Below w.heap.size w w' := by
  have hz := zero_qc
  have hq := (((Bq.nil w).new #[.int .i32 (t 0), .int .i32 (t 1), .int .i32 (t 2)] 23).new #[.int .i32 0, .int .i32 0, .int .i32 0, .int .i32 0] 27).new #[.int .i32 0, .int .i32 0, .int .i32 0, .int .i32 0] 27
  have hG1 := hG.below (show Below w.heap.size w (((w.alloc (.cells #[.int .i32 (t 0), .int .i32 (t 1), .int .i32 (t 2)] 23)).alloc (.cells #[.int .i32 0, .int .i32 0, .int .i32 0, .int .i32 0] 27)).alloc (.cells #[.int .i32 0, .int .i32 0, .int .i32 0, .int .i32 0] 27)) by repeat' (first | (with_reducible exact Below.refl _ _) | (with_reducible assumption) | (with_reducible refine Below.setCell ?_ ?_ _) | (with_reducible refine Below.alloc ?_ ?_ _) | (with_reducible refine Below.drew ?_) | (with_reducible refine Below.drawsN ?_ _) | go_size)) hG.lt
  have HT := Lib.hid ht
  have hw0 := hG.lt
  clear ht hG
  go_enter Tryd.func7, Tryd.ntmps7
  go_upto_region 2 with fail
  obtain ⟨w1, hw1⟩ : ∃ w1, w1 = ((w.alloc (.cells #[.int .i32 (t 0), .int .i32 (t 1), .int .i32 (t 2)] 23)).alloc (.cells #[.int .i32 0, .int .i32 0, .int .i32 0, .int .i32 0] 27)).alloc (.cells #[.int .i32 0, .int .i32 0, .int .i32 0, .int .i32 0] 27) := ⟨_, rfl⟩
  rw [← hw1] at hq hG1 ⊢
  have HG := Lib.hid hG1
  simp only [World.size_alloc] at hq
  obtain ⟨g7, hg7⟩ : ∃ g, g = w.heap.size + 1 + 1 := ⟨_, rfl⟩
  obtain ⟨g6, hg6⟩ : ∃ g, g = w.heap.size + 1 := ⟨_, rfl⟩
  rw [← hg7, ← hg6] at hq
  rw [← hg7, ← hg6]
  obtain ⟨g3, hg3⟩ : ∃ g, g = w.heap.size := ⟨_, rfl⟩
  rw [← hg3] at hq
  rw [show (Value.pointer (some ⟨w.heap.size, 0, none⟩)) = .pointer (some ⟨g3, 0, none⟩) by rw [hg3]]
  have HV := Lib.hid (show Bq w w1 [(g3, #[.int .i32 (t 0), .int .i32 (t 1), .int .i32 (t 2)], 23), (g6, #[.int .i32 0, .int .i32 0, .int .i32 0, .int .i32 0], 27), (g7, #[.int .i32 (shP t s m 0 0), .int .i32 (shP t s m 0 1), .int .i32 (shP t s m 0 2), .int .i32 (shP t s m 0 3)], 27)] from hq)
  clear hq hw1 hg7 hg6 hg3 hG1
  go_wp2_with fail
  go_loopw [10] (fun v wr => ∃ k : Nat, k ≤ 4 ∧ v = .int .i64 (k : Nat) ∧ Bq w wr [(g3, #[.int .i32 (t 0), .int .i32 (t 1), .int .i32 (t 2)], 23), (g6, #[.int .i32 0, .int .i32 0, .int .i32 0, .int .i32 0], 27), (g7, #[.int .i32 (shP t s m k 0), .int .i32 (shP t s m k 1), .int .i32 (shP t s m k 2), .int .i32 (shP t s m k 3)], 27)] ∧ WAx wr) (fun v _ => 4 - (intOf v).toNat)
  case atStart => exact ⟨0, Nat.zero_le _, rfl, HV.out, HG.out⟩
  case round =>
    clear HV HG
    obtain ⟨k, hk, rfl, hv, hg⟩ := hrel
    have HV := Lib.hid hv
    have HG := Lib.hid hg
    clear hv hg
    by_cases h4 : k < 4
    · have HH := Lib.hid (fun w => Has_any s ((k : Nat) : Int) w hs)
      go_wp2_with fail
      go_at_call 8
      refine (HH.out _).mono ?_
      rintro e w2 ⟨rfl, hb⟩
      have HV2 := Lib.hid (HV.out.step hb)
      have HG2 := Lib.hid (HG.out.below hb (by have := HG.out.lt; omega))
      clear hb HV HG HH
      by_cases h : s &&& bit1 ((k : Nat) : Int) = 0
      · have e : decide (s &&& bit1 ((k : Nat) : Int) ≠ 0) = false := by simp [h]
        have hf0 : shF t s m k = 0 := by unfold shF; rw [if_neg (by simp [h])]
        have F0 := Lib.hid hf0
        rw [e]
        clear h e hf0
        go_wp2
        go_roundw
        case rel => exact ⟨k + 1, by omega, by go_num, by rw [← shP_no F0.out]; exact HV2.out, HG2.out⟩
        case measure => simp [intOf]; omega
      · have e : decide (s &&& bit1 ((k : Nat) : Int) ≠ 0) = true := by simp [h]
        have hf1 : shF t s m k = shW t m k := by unfold shF; rw [if_pos (by simpa using h)]
        have F1 := Lib.hid hf1
        rw [e]
        clear h e hf1
        go_upto_region 6 with fail
        obtain ⟨S, hS⟩ : ∃ S, S = dotW t k := ⟨_, rfl⟩
        obtain ⟨X, hX⟩ : ∃ X, X = Fx.sat (S / 4) := ⟨_, rfl⟩
        have sb : -9223372036854775808 ≤ S ∧ S ≤ 9223372036854775807 := by rw [hS]; exact Fx.sums_bd _
        have HS := Lib.hid hS
        have HX := Lib.hid hX
        have hr := wax_range HG2.out h4
        have b3 := HV2.out.of 0 rfl
        have l3 := box_lt b3
        have lg := HG2.out.lt
        have HR := Lib.hid hr
        clear hS hX hr
        obtain ⟨I, W, hne, hWI, hIW⟩ := Go.Mix.family (fun v => Below w2.heap.size w2 v) (Below.refl _ _)
        have HJ := Lib.hid hIW
        have HW := Lib.hid hWI
        clear hWI hIW
        refine Go.Flo.wp_region (fun w' => ∃ i, w' = W i) 8 [Go.Flo.Spec.is (.int .i64 S), Go.Flo.Spec.is (.int .i32 X)] (by kernel_rfl) (by kernel_rfl) (by decide) (by rintro _ w' ⟨i, rfl⟩ hb; exact HJ.out _ ((HW.out i).trans (hb.mono (HW.out i).size))) (HJ.out _ (Below.refl _ _).drew) ?_
        simp only [Go.Flo.pair, Go.Mix.calm, List.take, List.drop, if_true, Bool.false_eq_true, if_false, Nat.reduceAdd, Nat.reduceSub]
        (first | (refine Go.Flo.fw_calm rfl ?_ (fun K hK => ?_); (first | exact Go.Mix.wanted_none rfl | exact Go.Mix.wanted_tt rfl rfl rfl | exact Go.Mix.wanted_ff rfl rfl rfl); go_big_quiet_op; refine hK _ ?_; clear hK K) | (refine Go.Flo.fw_skip ?_ (fun K hK => ?_); (first | exact Go.Mix.wanted_tf rfl rfl rfl | exact Go.Mix.wanted_ft rfl rfl rfl); go_simp; refine hK _ ?_; clear hK K) | (refine Go.Flo.fw_any rfl ?_ (fun K hK => ?_); (first | exact Go.Mix.wanted_none rfl | exact Go.Mix.wanted_tt rfl rfl rfl | exact Go.Mix.wanted_ff rfl rfl rfl); go_simp; (try (go_ints; try go_simp)); refine hK _ ?_; clear hK K))
        (first | (refine Go.Flo.fw_calm rfl ?_ (fun K hK => ?_); (first | exact Go.Mix.wanted_none rfl | exact Go.Mix.wanted_tt rfl rfl rfl | exact Go.Mix.wanted_ff rfl rfl rfl); go_big_quiet_op; refine hK _ ?_; clear hK K) | (refine Go.Flo.fw_skip ?_ (fun K hK => ?_); (first | exact Go.Mix.wanted_tf rfl rfl rfl | exact Go.Mix.wanted_ft rfl rfl rfl); go_simp; refine hK _ ?_; clear hK K) | (refine Go.Flo.fw_any rfl ?_ (fun K hK => ?_); (first | exact Go.Mix.wanted_none rfl | exact Go.Mix.wanted_tt rfl rfl rfl | exact Go.Mix.wanted_ff rfl rfl rfl); go_simp; (try (go_ints; try go_simp)); refine hK _ ?_; clear hK K))
        (refine Go.Flo.fw_calm rfl ?_ (fun K hK => ?_); (first | exact Go.Mix.wanted_none rfl | exact Go.Mix.wanted_tt rfl rfl rfl | exact Go.Mix.wanted_ff rfl rfl rfl); refine Go.Flo.quiet_load_midS 23 _ rfl 0 (k * 3) rfl [.int .i32 (wa k 0), .int .i32 (wa k 1), .int .i32 (wa k 2)] (by rintro _ ⟨i, rfl⟩; exact fun j v hj => ((HW.out i).cell (p := ⟨0, k * 3 + j, none⟩) lg).trans (HR.out j v hj)) Tryd.underlying23 rfl size_vc ?_; go_simp; refine hK _ ?_; clear hK K)
        (refine Go.Flo.fw_calm rfl ?_ (fun K hK => ?_); (first | exact Go.Mix.wanted_none rfl | exact Go.Mix.wanted_tt rfl rfl rfl | exact Go.Mix.wanted_ff rfl rfl rfl); refine Go.Flo.quiet_load_row 23 _ rfl _ rfl _ #[.int .i32 (t 0), .int .i32 (t 1), .int .i32 (t 2)] _ (by rintro _ ⟨i, rfl⟩; exact ((HW.out i).block _ l3).trans b3) Tryd.underlying23 rfl size_vc ?_; go_simp; refine hK _ ?_; clear hK K)
        refine Go.Flo.fw_loud rfl ?_ rfl (by simp) (fun wv hwv hav K hK => ?_) (fun v hv K hK => ?_)
        · (first | exact Go.Mix.wanted_none rfl | exact Go.Mix.wanted_tt rfl rfl rfl | exact Go.Mix.wanted_ff rfl rfl rfl)
        · obtain ⟨iv, rfl⟩ := hwv
          have hbv := HW.out iv
          (first | go_big_op | go_simp)
          go_at_call 21
          refine (vDot_any (wa k 0) (wa k 1) (wa k 2) (t 0) (t 1) (t 2) _ (by have := wa_bd k 0 h4 (by decide); omega) (by have := wa_bd k 0 h4 (by decide); omega) (by have := wa_bd k 1 h4 (by decide); omega) (by have := wa_bd k 1 h4 (by decide); omega) (by have := wa_bd k 2 h4 (by decide); omega) (by have := wa_bd k 2 h4 (by decide); omega) (HT.out 0 (by decide)).1 (HT.out 0 (by decide)).2 (HT.out 1 (by decide)).1 (HT.out 1 (by decide)).2 (HT.out 2 (by decide)).1 (HT.out 2 (by decide)).2).mono ?_
          rintro e w' ⟨rfl, hb⟩
          rw [show Fx.sums [wa k 0 * t 0, wa k 1 * t 1, wa k 2 * t 2] = S from HS.out.symm]
          exact hK _ _ (Go.Flo.owes_is _ rfl hb)
        obtain rfl := hv.is
        go_simp
        refine hK _ ?_
        clear hK K hv
        (first | (refine Go.Flo.fw_calm rfl ?_ (fun K hK => ?_); (first | exact Go.Mix.wanted_none rfl | exact Go.Mix.wanted_tt rfl rfl rfl | exact Go.Mix.wanted_ff rfl rfl rfl); go_big_quiet_op; refine hK _ ?_; clear hK K) | (refine Go.Flo.fw_skip ?_ (fun K hK => ?_); (first | exact Go.Mix.wanted_tf rfl rfl rfl | exact Go.Mix.wanted_ft rfl rfl rfl); go_simp; refine hK _ ?_; clear hK K) | (refine Go.Flo.fw_any rfl ?_ (fun K hK => ?_); (first | exact Go.Mix.wanted_none rfl | exact Go.Mix.wanted_tt rfl rfl rfl | exact Go.Mix.wanted_ff rfl rfl rfl); go_simp; (try (go_ints; try go_simp)); refine hK _ ?_; clear hK K))
        refine Go.Flo.fw_loud rfl ?_ rfl (by simp) (fun wv hwv hav K hK => ?_) (fun v hv K hK => ?_)
        · (first | exact Go.Mix.wanted_none rfl | exact Go.Mix.wanted_tt rfl rfl rfl | exact Go.Mix.wanted_ff rfl rfl rfl)
        · obtain ⟨iv, rfl⟩ := hwv
          have hbv := HW.out iv
          (first | go_big_op | go_simp)
          go_at_call 20
          refine (Sat_any _ _ (by omega) (by omega)).mono ?_
          rintro e w' ⟨rfl, hb⟩
          rw [← HX.out, ← hb]
          exact hK _ _ (Go.Flo.owes_is _ rfl (Below.refl _ _))
        obtain rfl := hv.is
        go_simp
        refine hK _ ?_
        clear hK K hv
        (repeat (first | (refine Go.Flo.fw_calm rfl ?_ (fun K hK => ?_); (first | exact Go.Mix.wanted_none rfl | exact Go.Mix.wanted_tt rfl rfl rfl | exact Go.Mix.wanted_ff rfl rfl rfl); go_big_quiet_op; refine hK _ ?_; clear hK K) | (refine Go.Flo.fw_skip ?_ (fun K hK => ?_); (first | exact Go.Mix.wanted_tf rfl rfl rfl | exact Go.Mix.wanted_ft rfl rfl rfl); go_simp; refine hK _ ?_; clear hK K) | (refine Go.Flo.fw_any rfl ?_ (fun K hK => ?_); (first | exact Go.Mix.wanted_none rfl | exact Go.Mix.wanted_tt rfl rfl rfl | exact Go.Mix.wanted_ff rfl rfl rfl); go_simp; (try (go_ints; try go_simp)); refine hK _ ?_; clear hK K)))
        refine Go.Flo.fw_nil ?_
        intro w4 hww4 hfw4 huw4
        refine Go.Flo.tw_nil ?_
        obtain ⟨iend, hiend⟩ := hww4
        have hbw4 := HW.out iend
        rw [← hiend] at hbw4
        clear hiend iend huw4
        have HV4 := Lib.hid (HV2.out.step hbw4)
        have HG4 := Lib.hid (HG2.out.below hbw4 HG2.out.lt)
        clear hfw4 HJ HW hne hbw4 b3 l3 lg HR HV2 HG2
        clear W I
        go_wp2_with fail
        go_at_call 22
        refine (limited_any X m _ hm0 hm1).mono ?_
        rintro e w5 ⟨rfl, hb⟩
        have HV5 := Lib.hid (HV4.out.step hb)
        have HG5 := Lib.hid (HG4.out.below hb HG4.out.lt)
        clear hb HV4 HG4
        have b7 := HV5.out.of 2 rfl
        have c7 := cell_of_row _ _ k _ _ _ b7
        have f7 := frozen_of_row _ _ k _ _ b7
        have e7 : (#[.int .i32 (shP t s m k 0), .int .i32 (shP t s m k 1), .int .i32 (shP t s m k 2), .int .i32 (shP t s m k 3)] : Array Value)[k]? = some (.int .i32 (shP t s m k k)) := by
          rcases (by omega : k = 0 ∨ k = 1 ∨ k = 2 ∨ k = 3) with rfl | rfl | rfl | rfl <;> rfl
        rw [e7] at c7
        have hv := HV5.out.set 2 rfl k (.int .i32 (shF t s m k))
        rw [shP_set t s m h4] at hv
        have hsh : shF t s m k = Fx.clamp X (-(max m 0)) (max m 0) := by rw [F1.out, HX.out, HS.out]; rfl
        rw [hsh] at hv
        have HV6 := Lib.hid hv
        have HG6 := Lib.hid (show WAx (w5.setCell ⟨g7, k, none⟩ (.int .i32 (Fx.clamp X (-(max m 0)) (max m 0)))) from ⟨by simpa using HG5.out.lt, fun i hi j hj => by
          have hg7 : g7 ≠ 0 := by have := HV5.out.low 2 rfl; have := hw0; omega
          exact (World.cell?_setCell_other _ _ _ _ (by intro e; cases e; exact hg7 rfl)).trans (HG5.out.c i hi j hj)⟩)
        clear b7 e7 hv hsh HV5 HG5
        go_wp2
        go_roundw
        case rel => exact ⟨k + 1, by omega, by go_num, HV6.out, HG6.out⟩
        case measure => simp [intOf]; omega
    · obtain rfl : k = 4 := by omega
      have b6 := HV.out.of 1 rfl
      have b7 := HV.out.of 2 rfl
      have hq := HV.out.put 1 rfl #[.int .i32 (shF t s m 0), .int .i32 (shF t s m 1), .int .i32 (shF t s m 2), .int .i32 (shF t s m 3)]
      have b8 := hq.of 1 rfl
      have HB := Lib.hid hq.be
      have HB8 := Lib.hid b8
      clear hq b8 HV HG hk h4
      go_wp2_with (first | ((with_reducible show wpList _ _ _ (_ :: _) _ _); refine wpList_load_row rfl 27 _ rfl _ rfl _ _ _ _ b7 Tryd.underlying27 rfl (by exact size_qc) ?_; (try go_simp)) | ((with_reducible show wpList _ _ _ (_ :: _) _ _); refine wpList_store_row rfl 27 _ _ rfl _ _ rfl rfl _ _ b6 (by exact size_qc) (by rfl) (by simp [Value.oneCell']) ?_))
      refine bodyPost_ret (results_cell_row rfl _ _ _ _ _ _ _ rfl HB8.out Tryd.underlying27 rfl (by exact size_qc)) rfl ?_
      exact ⟨rfl, HB.out⟩
end Go.Proofs.YtinaimacocgemaaDoor
