/- FdirRests. -/
import Derived.Test.YtinaimacocgemaaLaw22e
namespace Go.Proofs.Ytinaimacocgemaa
open Go.RowKit Go.Own Bs
set_option linter.unusedVariables false
set_option linter.unusedSimpArgs false
theorem set_lim (L C : Nat → Nat) {l : Nat} (hl : l < 5) (x : Nat) : (#[.int .u8 ((L 0 : Nat) : Int), .int .u8 ((L 1 : Nat) : Int), .int .u8 ((L 2 : Nat) : Int), .int .u8 ((L 3 : Nat) : Int), .int .u8 ((L 4 : Nat) : Int), .int .u8 ((C 0 : Nat) : Int), .int .u8 ((C 1 : Nat) : Int), .int .u8 ((C 2 : Nat) : Int), .int .u8 ((C 3 : Nat) : Int), .int .u8 ((C 4 : Nat) : Int)] : Array Value).setIfInBounds l (.int .u8 ((x : Nat) : Int)) = #[.int .u8 ((upd L l x 0 : Nat) : Int), .int .u8 ((upd L l x 1 : Nat) : Int), .int .u8 ((upd L l x 2 : Nat) : Int), .int .u8 ((upd L l x 3 : Nat) : Int), .int .u8 ((upd L l x 4 : Nat) : Int), .int .u8 ((C 0 : Nat) : Int), .int .u8 ((C 1 : Nat) : Int), .int .u8 ((C 2 : Nat) : Int), .int .u8 ((C 3 : Nat) : Int), .int .u8 ((C 4 : Nat) : Int)] := by
  rcases (by omega : l = 0 ∨ l = 1 ∨ l = 2 ∨ l = 3 ∨ l = 4) with rfl | rfl | rfl | rfl | rfl <;> rfl
/-- The limits, the first k of them 1 at least. -/
def mxL (L : Nat → Nat) (k : Nat) : Nat → Nat := fun j => if j < k then max (L j) 1 else L j
theorem mxL_zero (L : Nat → Nat) : mxL L 0 = L := by funext j; unfold mxL; rw [if_neg (by omega)]
theorem mxL_succ (L : Nat → Nat) (k : Nat) : upd (mxL L k) k (max (L k) 1) = mxL L (k + 1) := by
  funext j
  unfold upd mxL
  by_cases h : j = k
  · subst h; rw [if_pos rfl, if_pos (by omega)]
  · rw [if_neg h]
    by_cases h2 : j < k
    · rw [if_pos h2, if_pos (by omega)]
    · rw [if_neg h2, if_neg (by omega)]
theorem mxL_at (L : Nat → Nat) (k : Nat) : mxL L k k = L k := by unfold mxL; rw [if_neg (by omega)]
theorem lb_mx {L : Nat → Nat} (h : Lb L) (k : Nat) : Lb (mxL L k) := fun j hj => by
  have := h j hj
  unfold mxL
  split <;> omega
theorem rs_calm {L : Nat → Nat} {inh l : Nat} {u : Int} (hL : 0 < L l) (hr : rgt l u = true) (ha : al inh l = true) : rsL inh L zF l u = some l := by
  unfold rsL
  rw [if_pos hr, act_step inh L zF (rgt_lt hr) none, if_pos ha, if_pos (by unfold zF; exact hL)]
theorem act_none {inh : Nat} (L C : Nat → Nat) (ha : ∀ k, al inh k = false) : ∀ n r, act inh L C n r = r
  | 0, r => rfl
  | n + 1, r => by unfold act; rw [if_neg (by rw [ha]; decide)]; exact act_none L C ha n r
theorem al_31 (k : Nat) : al 31 k = false := by
  by_cases h : k < 5
  · rcases (by omega : k = 0 ∨ k = 1 ∨ k = 2 ∨ k = 3 ∨ k = 4) with rfl | rfl | rfl | rfl | rfl <;> decide
  · exact al_no 31 h
theorem rs_31 (L C : Nat → Nat) (l : Nat) (u : Int) : rsL 31 L C l u = none := by
  unfold rsL
  split
  · exact act_none L C al_31 _ _
  · rfl
theorem rs_bad (inh : Nat) (L C : Nat → Nat) {l : Nat} (u : Int) (h : 5 ≤ l) : rsL inh L C l u = none := by
  unfold rsL
  rw [if_neg (fun hr => by have := rgt_lt hr; omega)]
theorem al_low {l : Nat} (h : l < 5) : al (2 ^ l - 1) l = true := by
  rcases (by omega : l = 0 ∨ l = 1 ∨ l = 2 ∨ l = 3 ∨ l = 4) with rfl | rfl | rfl | rfl | rfl <;> decide
theorem al_zero {l : Nat} (h : l < 5) : al 0 l = true := by
  rcases (by omega : l = 0 ∨ l = 1 ∨ l = 2 ∨ l = 3 ∨ l = 4) with rfl | rfl | rfl | rfl | rfl <;> decide
theorem run_max8 (x : Nat) (w : World) : (Builtin.max_ #[5, 5] 5 #[.int .u8 (x : Nat), .int .u8 1]).run Try.prog w = .ok (.int .u8 ((max x 1 : Nat) : Int)) w := by
  rw [run_maxJ, show max (x : Int) 1 = ((max x 1 : Nat) : Int) by omega]
theorem low_pow {m : Nat} (h : m < 5) : ((2 : Int) ^ m % 256 - 1) % 256 = ((2 ^ m - 1 : Nat) : Int) := by
  rcases (by omega : m = 0 ∨ m = 1 ∨ m = 2 ∨ m = 3 ∨ m = 4) with rfl | rfl | rfl | rfl | rfl <;> decide
theorem low_lt {m : Nat} (h : m < 5) : 2 ^ m - 1 < 256 := by
  rcases (by omega : m = 0 ∨ m = 1 ∨ m = 2 ∨ m = 3 ∨ m = 4) with rfl | rfl | rfl | rfl | rfl <;> decide
theorem rgt_yes {l : Nat} {u : Int} (h : l < 5) (h0 : 0 ≤ u) (h1 : u < 16) : rgt l u = true := by
  unfold rgt
  rw [decide_eq_true h, decide_eq_true (by omega : -1 ≤ u), decide_eq_true h1]; rfl
set_option maxRecDepth 100000 in
set_option maxHeartbeats 8000000 in
theorem walk_FdirRests (cs0 : List Value) (n1_0 n1_1 n1_2 a2 : Int) (w : World) (w0 : Fit w [.int .u8, .int .u8, .int .u8, .int .u8, .int .u8, .int .u8, .int .u8, .int .u8, .int .u8, .int .u8] cs0) (w1_0 : (Lit.int .u8 n1_0).wf = true) (w1_1 : (Lit.int .i64 n1_1).wf = true) (w1_2 : (Lit.int .u8 n1_2).wf = true) (w2 : (Lit.int .u8 a2).wf = true) :
    Calls Try.prog 9 #[.agg cs0.toArray, .agg #[.int .u8 n1_0, .int .i64 n1_1, .int .u8 n1_2], .int .u8 a2] w fun e w' => e = .returned (.bool true) ∧ Below w.heap.size w w' := by
  obtain ⟨L, C, hL, hC, e0⟩ := ld_fit w0
  rw [e0]
  obtain ⟨r0, r1⟩ := bounds_u8 w1_0
  obtain ⟨s0, s1⟩ := bounds_u8 w1_2
  obtain ⟨t0, t1⟩ := bounds_u8 w2
  obtain ⟨l, rfl⟩ := Int.eq_ofNat_of_zero_le r0
  obtain ⟨ev, rfl⟩ := Int.eq_ofNat_of_zero_le s0
  obtain ⟨inh, rfl⟩ := Int.eq_ofNat_of_zero_le t0
  have hl : l < 256 := by omega
  have hev : ev < 256 := by omega
  have hinh : inh < 256 := by omega
  obtain ⟨u, hu⟩ : ∃ u, u = n1_1 := ⟨_, rfl⟩
  rw [← hu]
  have HLC := Lib.hid (show Lb L ∧ Lb C from ⟨hL, hC⟩)
  clear w0 w1_0 w1_1 w1_2 w2 e0 r0 r1 s0 s1 t0 t1 hL hC hu cs0 n1_1
  have hz := zero_ld
  have hz2 := zero_al
  have hq := ((Bq.nil w).new #[.int .u8 ((L 0 : Nat) : Int), .int .u8 ((L 1 : Nat) : Int), .int .u8 ((L 2 : Nat) : Int), .int .u8 ((L 3 : Nat) : Int), .int .u8 ((L 4 : Nat) : Int), .int .u8 ((C 0 : Nat) : Int), .int .u8 ((C 1 : Nat) : Int), .int .u8 ((C 2 : Nat) : Int), .int .u8 ((C 3 : Nat) : Int), .int .u8 ((C 4 : Nat) : Int)] 100).new #[.int .u8 ((l : Nat) : Int), .int .i64 u, .int .u8 ((ev : Nat) : Int)] 84
  go_enter Try.func9, Try.ntmps9
  go_upto_region 1 with fail
  rw [show (w.alloc (.cells #[.int .u8 ((L 0 : Nat) : Int), .int .u8 ((L 1 : Nat) : Int), .int .u8 ((L 2 : Nat) : Int), .int .u8 ((L 3 : Nat) : Int), .int .u8 ((L 4 : Nat) : Int), .int .u8 ((C 0 : Nat) : Int), .int .u8 ((C 1 : Nat) : Int), .int .u8 ((C 2 : Nat) : Int), .int .u8 ((C 3 : Nat) : Int), .int .u8 ((C 4 : Nat) : Int)] 100)).heap.size = w.heap.size + 1 by simp] at hq
  obtain ⟨w1, hw1⟩ : ∃ w1, w1 = (w.alloc (.cells #[.int .u8 ((L 0 : Nat) : Int), .int .u8 ((L 1 : Nat) : Int), .int .u8 ((L 2 : Nat) : Int), .int .u8 ((L 3 : Nat) : Int), .int .u8 ((L 4 : Nat) : Int), .int .u8 ((C 0 : Nat) : Int), .int .u8 ((C 1 : Nat) : Int), .int .u8 ((C 2 : Nat) : Int), .int .u8 ((C 3 : Nat) : Int), .int .u8 ((C 4 : Nat) : Int)] 100)).alloc (.cells #[.int .u8 ((l : Nat) : Int), .int .i64 u, .int .u8 ((ev : Nat) : Int)] 84) := ⟨_, rfl⟩
  rw [← hw1] at hq ⊢
  obtain ⟨g1, hg1⟩ : ∃ g, g = w.heap.size + 1 := ⟨_, rfl⟩
  rw [← hg1] at hq ⊢
  obtain ⟨g0, hg0⟩ : ∃ g, g = w.heap.size := ⟨_, rfl⟩
  rw [← hg0] at hq
  rw [show (Value.pointer (some ⟨w.heap.size, 0, none⟩)) = .pointer (some ⟨g0, 0, none⟩) by rw [hg0]]
  have HQ := Lib.hid (show Bq w w1 [(g0, #[.int .u8 ((L 0 : Nat) : Int), .int .u8 ((L 1 : Nat) : Int), .int .u8 ((L 2 : Nat) : Int), .int .u8 ((L 3 : Nat) : Int), .int .u8 ((L 4 : Nat) : Int), .int .u8 ((C 0 : Nat) : Int), .int .u8 ((C 1 : Nat) : Int), .int .u8 ((C 2 : Nat) : Int), .int .u8 ((C 3 : Nat) : Int), .int .u8 ((C 4 : Nat) : Int)], 100), (g1, #[.int .u8 ((l : Nat) : Int), .int .i64 u, .int .u8 ((ev : Nat) : Int)], 84)] from hq)
  clear hq hw1 hg1 hg0
  go_wp2_with fail
  go_at_call 42
  refine (awake22 _).mono ?_
  rintro e w2 ⟨rfl, hb⟩
  have HQ2 := Lib.hid (HQ.out.step hb)
  clear hb HQ
  go_wp2_with fail
  go_loopw [24] (fun i wr => ∃ k : Nat, k ≤ 5 ∧ i = .int .i64 (k : Nat) ∧ Bq w wr [(g0, #[.int .u8 ((mxL L k 0 : Nat) : Int), .int .u8 ((mxL L k 1 : Nat) : Int), .int .u8 ((mxL L k 2 : Nat) : Int), .int .u8 ((mxL L k 3 : Nat) : Int), .int .u8 ((mxL L k 4 : Nat) : Int), .int .u8 ((C 0 : Nat) : Int), .int .u8 ((C 1 : Nat) : Int), .int .u8 ((C 2 : Nat) : Int), .int .u8 ((C 3 : Nat) : Int), .int .u8 ((C 4 : Nat) : Int)], 100), (g1, #[.int .u8 ((l : Nat) : Int), .int .i64 u, .int .u8 ((ev : Nat) : Int)], 84)]) (fun i _ => 5 - (intOf i).toNat)
  case atStart => exact ⟨0, Nat.zero_le _, rfl, by rw [mxL_zero]; exact HQ2.out⟩
  case round =>
    clear HQ2
    obtain ⟨k, hk, rfl, hq⟩ := hrel
    have HQ := Lib.hid hq
    clear hq
    by_cases h5 : k < 5
    · have b0 := HQ.out.of 0 rfl
      have c0 := cell_of_row _ _ k _ _ _ b0
      rw [ld_lim _ C h5, mxL_at] at c0
      have f0 := frozen_of_row _ _ k _ _ b0
      have hmx := run_max8 (L k)
      have hv := HQ.out.set 0 rfl k (.int .u8 ((max (L k) 1 : Nat) : Int))
      rw [set_lim _ C h5, mxL_succ] at hv
      have HV := Lib.hid hv
      clear b0 hv
      go_wp2
      go_roundw
      case rel => exact ⟨k + 1, by omega, by go_num, HV.out⟩
      case measure => simp [intOf]; omega
    · obtain rfl : k = 5 := by omega
      clear hk h5
      obtain ⟨L5, hL5⟩ : ∃ L5, L5 = mxL L 5 := ⟨_, rfl⟩
      rw [← hL5] at HQ
      have hpos : ∀ j, j < 5 → 0 < L5 j := fun j hj => by rw [hL5]; unfold mxL; rw [if_pos hj]; omega
      have HL5 := Lib.hid (show Lb L5 by rw [hL5]; exact lb_mx HLC.out.1 5)
      have HPOS := Lib.hid hpos
      clear hL5 hpos
      have b1 := HQ.out.of 1 rfl
      have c0 := cell_of_row _ _ 0 _ _ _ b1
      have c1 := cell_of_row _ _ 1 _ _ _ b1
      have c2 := cell_of_row _ _ 2 _ _ _ b1
      have f0 := frozen_of_row _ _ 0 _ _ b1
      have f1 := frozen_of_row _ _ 1 _ _ b1
      obtain ⟨m, hm⟩ : ∃ m, m = l % 5 := ⟨_, rfl⟩
      obtain ⟨d, hd⟩ : ∃ d, d = ev % 16 := ⟨_, rfl⟩
      have e1 : (l : Int) % 5 = (m : Int) := by omega
      have e2 : (ev : Int) % 16 = (d : Int) := by omega
      have hm5 : m < 5 := by omega
      have hd6 : d < 16 := by omega
      have hv := (HQ.out.set 1 rfl 0 (.int .u8 ((m : Nat) : Int))).set 1 rfl 1 (.int .i64 ((d : Nat) : Int))
      have HV := Lib.hid (show Bq w _ [(g0, #[.int .u8 ((L5 0 : Nat) : Int), .int .u8 ((L5 1 : Nat) : Int), .int .u8 ((L5 2 : Nat) : Int), .int .u8 ((L5 3 : Nat) : Int), .int .u8 ((L5 4 : Nat) : Int), .int .u8 ((C 0 : Nat) : Int), .int .u8 ((C 1 : Nat) : Int), .int .u8 ((C 2 : Nat) : Int), .int .u8 ((C 3 : Nat) : Int), .int .u8 ((C 4 : Nat) : Int)], 100), (g1, #[.int .u8 ((m : Nat) : Int), .int .i64 (d : Int), .int .u8 ((ev : Nat) : Int)], 84)] from hv)
      have E1 := Lib.hid e1
      have E2 := Lib.hid e2
      clear b1 hv hm hd e1 e2 HQ
      go_upto_region 9 with fail
      rw [E1.out, E2.out]
      obtain ⟨w3, hw3⟩ : ∃ w3, w3 = (wr.setCell ⟨g1, 0, none⟩ (.int .u8 (m : Nat))).setCell ⟨g1, 1, none⟩ (.int .i64 (d : Nat)) := ⟨_, rfl⟩
      rw [← hw3] at HV ⊢
      clear hw3 c0 c1 c2 f0 f1 E1 E2
      have b0 := HV.out.of 0 rfl
      have b1 := HV.out.of 1 rfl
      have l0 := box_lt b0
      have l1 := box_lt b1
      have hrg : rgt m (d : Int) = true := rgt_yes hm5 (by omega) (by omega)
      have hrs := rs_calm (inh := 0) (HPOS.out m hm5) hrg (al_zero hm5)
      have HRS := Lib.hid hrs
      have HRG := Lib.hid hrg
      clear hrs hrg
      obtain ⟨I, W, hne, hWI, hIW⟩ := Go.Mix.family (fun v => Below w3.heap.size w3 v) (Below.refl _ _)
      have HJ := Lib.hid hIW
      have HW := Lib.hid hWI
      clear hWI hIW
      refine Go.Flo3.wp_region (fun w' => ∃ i, w' = W i) 10 [Go.Flo.Spec.is (.agg #[.int .u8 ((L5 0 : Nat) : Int), .int .u8 ((L5 1 : Nat) : Int), .int .u8 ((L5 2 : Nat) : Int), .int .u8 ((L5 3 : Nat) : Int), .int .u8 ((L5 4 : Nat) : Int), .int .u8 ((zF 0 : Nat) : Int), .int .u8 ((zF 1 : Nat) : Int), .int .u8 ((zF 2 : Nat) : Int), .int .u8 ((zF 3 : Nat) : Int), .int .u8 ((zF 4 : Nat) : Int)]), Go.Flo.Spec.is (.tuple #[.agg #[.int .u8 ((L5 0 : Nat) : Int), .int .u8 ((L5 1 : Nat) : Int), .int .u8 ((L5 2 : Nat) : Int), .int .u8 ((L5 3 : Nat) : Int), .int .u8 ((L5 4 : Nat) : Int), .int .u8 ((bump zF m 0 : Nat) : Int), .int .u8 ((bump zF m 1 : Nat) : Int), .int .u8 ((bump zF m 2 : Nat) : Int), .int .u8 ((bump zF m 3 : Nat) : Int), .int .u8 ((bump zF m 4 : Nat) : Int)], .agg #[.int .u8 ((m : Nat) : Int), .int .i64 (d : Int), .int .u8 ((ev : Nat) : Int)], .bool true]), Go.Flo.Spec.ptr w3.heap.size #[.int .u8 0, .int .u8 0, .int .u8 0, .int .u8 0, .int .u8 0, .int .u8 0, .int .u8 0, .int .u8 0, .int .u8 0, .int .u8 0] 100, Go.Flo.Spec.ptr w3.heap.size #[.int .u8 0, .int .i64 0, .int .u8 0] 84] (by kernel_rfl) (by kernel_rfl) (by decide) (by rintro _ w' ⟨i, rfl⟩ hb; exact HJ.out _ ((HW.out i).trans (hb.mono (HW.out i).size))) (HJ.out _ (Below.refl _ _).drew) ?_
      simp only [Go.Flo.pair, Go.Mix.calm, List.take, List.drop, if_true, Bool.false_eq_true, if_false, Nat.reduceAdd, Nat.reduceSub]
      (refine Go.Flo.fw_calm rfl ?_ (fun K hK => ?_); (first | exact Go.Mix.wanted_none rfl | exact Go.Mix.wanted_tt rfl rfl rfl | exact Go.Mix.wanted_ff rfl rfl rfl); refine Go.Flo.quiet_load_row 100 _ rfl _ rfl _ #[.int .u8 ((L5 0 : Nat) : Int), .int .u8 ((L5 1 : Nat) : Int), .int .u8 ((L5 2 : Nat) : Int), .int .u8 ((L5 3 : Nat) : Int), .int .u8 ((L5 4 : Nat) : Int), .int .u8 ((C 0 : Nat) : Int), .int .u8 ((C 1 : Nat) : Int), .int .u8 ((C 2 : Nat) : Int), .int .u8 ((C 3 : Nat) : Int), .int .u8 ((C 4 : Nat) : Int)] _ (by rintro _ ⟨i, rfl⟩; exact ((HW.out i).block _ l0).trans b0) Try.underlying100 rfl size_ld ?_; go_simp; refine hK _ ?_; clear hK K)
      refine Go.Flo.fw_loud rfl ?_ rfl (by simp) (fun wv hwv hav K hK => ?_) (fun v hv K hK => ?_)
      · (first | exact Go.Mix.wanted_none rfl | exact Go.Mix.wanted_tt rfl rfl rfl | exact Go.Mix.wanted_ff rfl rfl rfl)
      · obtain ⟨iv, rfl⟩ := hwv
        have hbv := HW.out iv
        (first | go_big_op | go_simp)
        go_at_call 55
        refine (Calm_any L5 C _).mono ?_
        rintro e w' ⟨rfl, hb⟩
        exact hK _ _ (Go.Flo.owes_is _ rfl hb)
      obtain rfl := hv.is
      go_simp
      refine hK _ ?_
      clear hK K hv
      (refine Go.Flo.fw_calm rfl ?_ (fun K hK => ?_); (first | exact Go.Mix.wanted_none rfl | exact Go.Mix.wanted_tt rfl rfl rfl | exact Go.Mix.wanted_ff rfl rfl rfl); refine Go.Flo.quiet_load_row 84 _ rfl _ rfl _ #[.int .u8 ((m : Nat) : Int), .int .i64 (d : Int), .int .u8 ((ev : Nat) : Int)] _ (by rintro _ ⟨i, rfl⟩; exact ((HW.out i).block _ l1).trans b1) Try.underlying84 rfl size_al ?_; go_simp; refine hK _ ?_; clear hK K)
      refine Go.Flo.fw_loud rfl ?_ rfl (by simp) (fun wv hwv hav K hK => ?_) (fun v hv K hK => ?_)
      · (first | exact Go.Mix.wanted_none rfl | exact Go.Mix.wanted_tt rfl rfl rfl | exact Go.Mix.wanted_ff rfl rfl rfl)
      · obtain ⟨iv, rfl⟩ := hwv
        have hbv := HW.out iv
        (first | go_big_op | go_simp)
        go_at_call 53
        refine (Raise_yes L5 zF m d ev 0 m _ (by omega) (by decide) (fun _ _ => by unfold zF; decide) HRS.out).mono ?_
        rintro e w' ⟨rfl, hb⟩
        exact hK _ _ (Go.Flo.owes_is _ rfl hb)
      obtain rfl := hv.is
      go_simp
      refine hK _ ?_
      clear hK K hv
      (repeat (first | (refine Go.Flo.fw_calm rfl ?_ (fun K hK => ?_); (first | exact Go.Mix.wanted_none rfl | exact Go.Mix.wanted_tt rfl rfl rfl | exact Go.Mix.wanted_ff rfl rfl rfl); go_big_quiet_op; refine hK _ ?_; clear hK K) | (refine Go.Flo.fw_skip ?_ (fun K hK => ?_); (first | exact Go.Mix.wanted_tf rfl rfl rfl | exact Go.Mix.wanted_ft rfl rfl rfl); go_simp; refine hK _ ?_; clear hK K) | (refine Go.Flo.fw_any rfl ?_ (fun K hK => ?_); (first | exact Go.Mix.wanted_none rfl | exact Go.Mix.wanted_tt rfl rfl rfl | exact Go.Mix.wanted_ff rfl rfl rfl); go_simp; (try (go_ints; try go_simp)); refine hK _ ?_; clear hK K)))
      refine Go.Flo.fw_loud rfl ?_ rfl (by simp) (fun wv hwv hav K hK => ?_) (fun v hv K hK => ?_)
      · (first | exact Go.Mix.wanted_none rfl | exact Go.Mix.wanted_tt rfl rfl rfl | exact Go.Mix.wanted_ff rfl rfl rfl)
      · obtain ⟨iv, rfl⟩ := hwv
        (first | go_big_op | go_simp)
        refine hK _ _ (Go.Flo.owes_ptr (HW.out iv).size)
      obtain ⟨g8, hg8, rfl, hng8⟩ := hv.ptr rfl
      go_simp
      refine hK _ ?_
      clear hK K hv
      refine Go.Flo.fw_loud rfl ?_ rfl (by simp) (fun wv hwv hav K hK => ?_) (fun v hv K hK => ?_)
      · (first | exact Go.Mix.wanted_none rfl | exact Go.Mix.wanted_tt rfl rfl rfl | exact Go.Mix.wanted_ff rfl rfl rfl)
      · obtain ⟨iv, rfl⟩ := hwv
        (first | go_big_op | go_simp)
        refine hK _ _ (Go.Flo.owes_ptr (HW.out iv).size)
      obtain ⟨g9, hg9, rfl, hng9⟩ := hv.ptr rfl
      go_simp
      refine hK _ ?_
      clear hK K hv
      have hng : g9 ≠ g8 := fun e => hng9 (e ▸ .inl rfl)
      refine Go.Flo.fw_nil ?_
      intro wc hwwc hfwc huwc
      obtain ⟨iend, hiend⟩ := hwwc
      have hbwc := HW.out iend
      rw [← hiend] at hbwc
      clear hiend iend huwc
      have h9 := Go.Flo.says_ptr ((hfwc (some 9)).2 rfl).1
      have h8 := Go.Flo.says_ptr ((hfwc (some 8)).1.2 rfl).1
      obtain ⟨hq, h9'⟩ := HV.out.two hbwc hg8 hg9 hng h8 h9 #[.int .u8 ((L5 0 : Nat) : Int), .int .u8 ((L5 1 : Nat) : Int), .int .u8 ((L5 2 : Nat) : Int), .int .u8 ((L5 3 : Nat) : Int), .int .u8 ((L5 4 : Nat) : Int), .int .u8 ((bump zF m 0 : Nat) : Int), .int .u8 ((bump zF m 1 : Nat) : Int), .int .u8 ((bump zF m 2 : Nat) : Int), .int .u8 ((bump zF m 3 : Nat) : Int), .int .u8 ((bump zF m 4 : Nat) : Int)] #[.int .u8 ((m : Nat) : Int), .int .i64 (d : Int), .int .u8 ((ev : Nat) : Int)]
      have HQ := Lib.hid hq
      clear hfwc HJ HW hne hbwc b0 b1 l0 l1 hng8 hng9 hng hg8 hg9 hq HV
      clear W I
      refine ⟨fun _ => True, trivial, ?_⟩

      (repeat (first | (refine Go.Mix.walk_calm rfl ?_ (fun K hK => ?_); (first | exact Go.Mix.wanted_none rfl | exact Go.Mix.wanted_tt rfl rfl rfl | exact Go.Mix.wanted_ff rfl rfl rfl); go_big_quiet_op; refine hK _ ?_; clear hK K) | (refine Go.Mix.walk_skip ?_ (fun K hK => ?_); (first | exact Go.Mix.wanted_tf rfl rfl rfl | exact Go.Mix.wanted_ft rfl rfl rfl); go_simp; refine hK _ ?_; clear hK K) | (refine Go.Mix.walk_loud rfl ?_ (fun K hK => ?_); (first | exact Go.Mix.wanted_none rfl | exact Go.Mix.wanted_tt rfl rfl rfl | exact Go.Mix.wanted_ff rfl rfl rfl); (first | go_big_op | go_simp); (first | (refine hK _ _ trivial ?_; clear hK K) | (fail; (try dsimp only); refine hK _ _ trivial ?_; clear hK K))) | (refine Go.Mix.walk_step (fun K hK => ?_); go_simp; (try (go_ints; try go_simp)); refine hK _ _ ?_; clear hK K)))
      (refine Go.Mix.walk_loud rfl ?_ (fun K hK => ?_); (first | exact Go.Mix.wanted_none rfl | exact Go.Mix.wanted_tt rfl rfl rfl | exact Go.Mix.wanted_ff rfl rfl rfl); refine wp_store_row 100 _ _ rfl _ #[.int .u8 ((L5 0 : Nat) : Int), .int .u8 ((L5 1 : Nat) : Int), .int .u8 ((L5 2 : Nat) : Int), .int .u8 ((L5 3 : Nat) : Int), .int .u8 ((L5 4 : Nat) : Int), .int .u8 ((bump zF m 0 : Nat) : Int), .int .u8 ((bump zF m 1 : Nat) : Int), .int .u8 ((bump zF m 2 : Nat) : Int), .int .u8 ((bump zF m 3 : Nat) : Int), .int .u8 ((bump zF m 4 : Nat) : Int)] rfl rfl 100 _ h8 size_ld rfl (by simp [Value.oneCell']) (hK _ _ trivial ?_); clear hK K)
      (repeat (first | (refine Go.Mix.walk_calm rfl ?_ (fun K hK => ?_); (first | exact Go.Mix.wanted_none rfl | exact Go.Mix.wanted_tt rfl rfl rfl | exact Go.Mix.wanted_ff rfl rfl rfl); go_big_quiet_op; refine hK _ ?_; clear hK K) | (refine Go.Mix.walk_skip ?_ (fun K hK => ?_); (first | exact Go.Mix.wanted_tf rfl rfl rfl | exact Go.Mix.wanted_ft rfl rfl rfl); go_simp; refine hK _ ?_; clear hK K) | (refine Go.Mix.walk_loud rfl ?_ (fun K hK => ?_); (first | exact Go.Mix.wanted_none rfl | exact Go.Mix.wanted_tt rfl rfl rfl | exact Go.Mix.wanted_ff rfl rfl rfl); (first | go_big_op | go_simp); (first | (refine hK _ _ trivial ?_; clear hK K) | (fail; (try dsimp only); refine hK _ _ trivial ?_; clear hK K))) | (refine Go.Mix.walk_step (fun K hK => ?_); go_simp; (try (go_ints; try go_simp)); refine hK _ _ ?_; clear hK K)))
      (refine Go.Mix.walk_loud rfl ?_ (fun K hK => ?_); (first | exact Go.Mix.wanted_none rfl | exact Go.Mix.wanted_tt rfl rfl rfl | exact Go.Mix.wanted_ff rfl rfl rfl); refine wp_store_row 84 _ _ rfl _ #[.int .u8 ((m : Nat) : Int), .int .i64 (d : Int), .int .u8 ((ev : Nat) : Int)] rfl rfl 84 _ h9' size_al rfl (by simp [Value.oneCell']) (hK _ _ trivial ?_); clear hK K)
      (repeat (first | (refine Go.Mix.walk_calm rfl ?_ (fun K hK => ?_); (first | exact Go.Mix.wanted_none rfl | exact Go.Mix.wanted_tt rfl rfl rfl | exact Go.Mix.wanted_ff rfl rfl rfl); go_big_quiet_op; refine hK _ ?_; clear hK K) | (refine Go.Mix.walk_skip ?_ (fun K hK => ?_); (first | exact Go.Mix.wanted_tf rfl rfl rfl | exact Go.Mix.wanted_ft rfl rfl rfl); go_simp; refine hK _ ?_; clear hK K) | (refine Go.Mix.walk_loud rfl ?_ (fun K hK => ?_); (first | exact Go.Mix.wanted_none rfl | exact Go.Mix.wanted_tt rfl rfl rfl | exact Go.Mix.wanted_ff rfl rfl rfl); (first | go_big_op | go_simp); (first | (refine hK _ _ trivial ?_; clear hK K) | (fail; (try dsimp only); refine hK _ _ trivial ?_; clear hK K))) | (refine Go.Mix.walk_step (fun K hK => ?_); go_simp; (try (go_ints; try go_simp)); refine hK _ _ ?_; clear hK K)))
      refine Go.Mix.walk_nil ?_
      obtain ⟨w4, hw4⟩ : ∃ w4, w4 = (wc.setRow g8 #[.int .u8 ((L5 0 : Nat) : Int), .int .u8 ((L5 1 : Nat) : Int), .int .u8 ((L5 2 : Nat) : Int), .int .u8 ((L5 3 : Nat) : Int), .int .u8 ((L5 4 : Nat) : Int), .int .u8 ((bump zF m 0 : Nat) : Int), .int .u8 ((bump zF m 1 : Nat) : Int), .int .u8 ((bump zF m 2 : Nat) : Int), .int .u8 ((bump zF m 3 : Nat) : Int), .int .u8 ((bump zF m 4 : Nat) : Int)]).setRow g9 #[.int .u8 ((m : Nat) : Int), .int .i64 (d : Int), .int .u8 ((ev : Nat) : Int)] := ⟨_, rfl⟩
      rw [← hw4] at HQ ⊢
      clear hw4 h8 h9 h9'
      go_upto_region 10 with fail
      have b0 := HQ.out.of 0 rfl
      have b1 := HQ.out.of 1 rfl
      go_wp2_with (first | ((with_reducible show wpList _ _ _ (_ :: _) _ _); refine wpList_load_row rfl 100 _ rfl _ rfl _ _ _ _ b0 Try.underlying100 rfl (by exact size_ld) ?_; (try go_simp)) | ((with_reducible show wpList _ _ _ (_ :: _) _ _); refine wpList_load_row rfl 84 _ rfl _ rfl _ _ _ _ b1 Try.underlying84 rfl (by exact size_al) ?_; (try go_simp)))
      refine (Raise_no L5 C m d ev 31 _ (by omega) (by decide) (rs_31 _ _ _ _)).mono ?_
      rintro e w5 ⟨rfl, hb⟩
      have HQ5 := Lib.hid (HQ.out.step hb)
      clear hb HQ b0 b1
      skip
      obtain ⟨hq0, q1, q2⟩ := HQ5.out.pair #[.int .u8 0, .int .u8 0, .int .u8 0, .int .u8 0, .int .u8 0, .int .u8 0, .int .u8 0, .int .u8 0, .int .u8 0, .int .u8 0] #[.int .u8 0, .int .i64 0, .int .u8 0] #[.int .u8 ((L5 0 : Nat) : Int), .int .u8 ((L5 1 : Nat) : Int), .int .u8 ((L5 2 : Nat) : Int), .int .u8 ((L5 3 : Nat) : Int), .int .u8 ((L5 4 : Nat) : Int), .int .u8 ((C 0 : Nat) : Int), .int .u8 ((C 1 : Nat) : Int), .int .u8 ((C 2 : Nat) : Int), .int .u8 ((C 3 : Nat) : Int), .int .u8 ((C 4 : Nat) : Int)] #[.int .u8 0, .int .i64 0, .int .u8 0] 100 84
      obtain ⟨wA, hwA⟩ : ∃ xW, (w5.alloc (.cells #[.int .u8 0, .int .u8 0, .int .u8 0, .int .u8 0, .int .u8 0, .int .u8 0, .int .u8 0, .int .u8 0, .int .u8 0, .int .u8 0] 100)).alloc (.cells #[.int .u8 0, .int .i64 0, .int .u8 0] 84) = xW := ⟨_, rfl⟩
      rw [hwA] at hq0 q1 q2
      obtain ⟨wB, hwB⟩ : ∃ xW, wA.setRow w5.heap.size #[.int .u8 ((L5 0 : Nat) : Int), .int .u8 ((L5 1 : Nat) : Int), .int .u8 ((L5 2 : Nat) : Int), .int .u8 ((L5 3 : Nat) : Int), .int .u8 ((L5 4 : Nat) : Int), .int .u8 ((C 0 : Nat) : Int), .int .u8 ((C 1 : Nat) : Int), .int .u8 ((C 2 : Nat) : Int), .int .u8 ((C 3 : Nat) : Int), .int .u8 ((C 4 : Nat) : Int)] = xW := ⟨_, rfl⟩
      rw [hwB] at hq0 q2
      obtain ⟨wC, hwC⟩ : ∃ xW, wB.setRow (w5.heap.size + 1) #[.int .u8 0, .int .i64 0, .int .u8 0] = xW := ⟨_, rfl⟩
      rw [hwC] at hq0
      have HQ6 := Lib.hid hq0
      clear hq0 HQ5
      go_upto_region 11 with (first | ((with_reducible show wpList _ _ _ (_ :: _) _ _); (try rw [hwA]); refine wpList_store_row rfl 100 _ _ rfl _ _ rfl rfl _ _ q1 (by exact size_ld) (by rfl) (by simp [Value.oneCell']) ?_; rw [hwB]) | ((with_reducible show wpList _ _ _ (_ :: _) _ _); refine wpList_store_row rfl 84 _ _ rfl _ _ rfl rfl _ _ q2 (by exact size_al) (by rfl) (by simp [Value.oneCell']) ?_; rw [hwC]))
      clear q1 q2 hwA hwB hwC
      obtain ⟨w6, hw6⟩ : ∃ w6, w6 = wC := ⟨_, rfl⟩
      obtain ⟨g11, hg11⟩ : ∃ g, g = w5.heap.size := ⟨_, rfl⟩
      rw [← hw6, ← hg11] at HQ6
      rw [← hw6, ← hg11]
      clear hw6 hg11
      have b1 := HQ6.out.of 1 rfl
      have c0 := cell_of_row _ _ 0 _ _ _ b1
      go_upto_region 12 with fail
      rw [low_pow hm5]
      have hrs := rs_calm (inh := 2 ^ m - 1) (HPOS.out m hm5) HRG.out (al_low hm5)
      have hlo := low_lt hm5
      obtain ⟨lo, hloe⟩ : ∃ lo, lo = 2 ^ m - 1 := ⟨_, rfl⟩
      rw [← hloe] at hrs hlo ⊢
      have HRS2 := Lib.hid hrs
      clear hrs hloe c0 b1 HRS
      have b0 := HQ6.out.of 0 rfl
      have b1 := HQ6.out.of 1 rfl
      have l0 := box_lt b0
      have l1 := box_lt b1
      obtain ⟨I, W, hne, hWI, hIW⟩ := Go.Mix.family (fun v => Below w6.heap.size w6 v) (Below.refl _ _)
      have HJ := Lib.hid hIW
      have HW := Lib.hid hWI
      clear hWI hIW
      refine Go.Flo3.wp_region (fun w' => ∃ i, w' = W i) 11 [Go.Flo.Spec.is (.agg #[.int .u8 ((L5 0 : Nat) : Int), .int .u8 ((L5 1 : Nat) : Int), .int .u8 ((L5 2 : Nat) : Int), .int .u8 ((L5 3 : Nat) : Int), .int .u8 ((L5 4 : Nat) : Int), .int .u8 ((zF 0 : Nat) : Int), .int .u8 ((zF 1 : Nat) : Int), .int .u8 ((zF 2 : Nat) : Int), .int .u8 ((zF 3 : Nat) : Int), .int .u8 ((zF 4 : Nat) : Int)]), Go.Flo.Spec.is (.tuple #[.agg #[.int .u8 ((L5 0 : Nat) : Int), .int .u8 ((L5 1 : Nat) : Int), .int .u8 ((L5 2 : Nat) : Int), .int .u8 ((L5 3 : Nat) : Int), .int .u8 ((L5 4 : Nat) : Int), .int .u8 ((bump zF m 0 : Nat) : Int), .int .u8 ((bump zF m 1 : Nat) : Int), .int .u8 ((bump zF m 2 : Nat) : Int), .int .u8 ((bump zF m 3 : Nat) : Int), .int .u8 ((bump zF m 4 : Nat) : Int)], .agg #[.int .u8 ((m : Nat) : Int), .int .i64 (d : Int), .int .u8 ((ev : Nat) : Int)], .bool true]), Go.Flo.Spec.ptr w6.heap.size #[.int .u8 0, .int .u8 0, .int .u8 0, .int .u8 0, .int .u8 0, .int .u8 0, .int .u8 0, .int .u8 0, .int .u8 0, .int .u8 0] 100, Go.Flo.Spec.ptr w6.heap.size #[.int .u8 0, .int .i64 0, .int .u8 0] 84] (by kernel_rfl) (by kernel_rfl) (by decide) (by rintro _ w' ⟨i, rfl⟩ hb; exact HJ.out _ ((HW.out i).trans (hb.mono (HW.out i).size))) (HJ.out _ (Below.refl _ _).drew) ?_
      simp only [Go.Flo.pair, Go.Mix.calm, List.take, List.drop, if_true, Bool.false_eq_true, if_false, Nat.reduceAdd, Nat.reduceSub]
      (refine Go.Flo.fw_calm rfl ?_ (fun K hK => ?_); (first | exact Go.Mix.wanted_none rfl | exact Go.Mix.wanted_tt rfl rfl rfl | exact Go.Mix.wanted_ff rfl rfl rfl); refine Go.Flo.quiet_load_row 100 _ rfl _ rfl _ #[.int .u8 ((L5 0 : Nat) : Int), .int .u8 ((L5 1 : Nat) : Int), .int .u8 ((L5 2 : Nat) : Int), .int .u8 ((L5 3 : Nat) : Int), .int .u8 ((L5 4 : Nat) : Int), .int .u8 ((C 0 : Nat) : Int), .int .u8 ((C 1 : Nat) : Int), .int .u8 ((C 2 : Nat) : Int), .int .u8 ((C 3 : Nat) : Int), .int .u8 ((C 4 : Nat) : Int)] _ (by rintro _ ⟨i, rfl⟩; exact ((HW.out i).block _ l0).trans b0) Try.underlying100 rfl size_ld ?_; go_simp; refine hK _ ?_; clear hK K)
      refine Go.Flo.fw_loud rfl ?_ rfl (by simp) (fun wv hwv hav K hK => ?_) (fun v hv K hK => ?_)
      · (first | exact Go.Mix.wanted_none rfl | exact Go.Mix.wanted_tt rfl rfl rfl | exact Go.Mix.wanted_ff rfl rfl rfl)
      · obtain ⟨iv, rfl⟩ := hwv
        have hbv := HW.out iv
        (first | go_big_op | go_simp)
        go_at_call 55
        refine (Calm_any L5 C _).mono ?_
        rintro e w' ⟨rfl, hb⟩
        exact hK _ _ (Go.Flo.owes_is _ rfl hb)
      obtain rfl := hv.is
      go_simp
      refine hK _ ?_
      clear hK K hv
      (refine Go.Flo.fw_calm rfl ?_ (fun K hK => ?_); (first | exact Go.Mix.wanted_none rfl | exact Go.Mix.wanted_tt rfl rfl rfl | exact Go.Mix.wanted_ff rfl rfl rfl); refine Go.Flo.quiet_load_row 84 _ rfl _ rfl _ #[.int .u8 ((m : Nat) : Int), .int .i64 (d : Int), .int .u8 ((ev : Nat) : Int)] _ (by rintro _ ⟨i, rfl⟩; exact ((HW.out i).block _ l1).trans b1) Try.underlying84 rfl size_al ?_; go_simp; refine hK _ ?_; clear hK K)
      (first | (refine Go.Flo.fw_calm rfl ?_ (fun K hK => ?_); (first | exact Go.Mix.wanted_none rfl | exact Go.Mix.wanted_tt rfl rfl rfl | exact Go.Mix.wanted_ff rfl rfl rfl); go_big_quiet_op; refine hK _ ?_; clear hK K) | (refine Go.Flo.fw_skip ?_ (fun K hK => ?_); (first | exact Go.Mix.wanted_tf rfl rfl rfl | exact Go.Mix.wanted_ft rfl rfl rfl); go_simp; refine hK _ ?_; clear hK K) | (refine Go.Flo.fw_any rfl ?_ (fun K hK => ?_); (first | exact Go.Mix.wanted_none rfl | exact Go.Mix.wanted_tt rfl rfl rfl | exact Go.Mix.wanted_ff rfl rfl rfl); go_simp; (try (go_ints; try go_simp)); refine hK _ ?_; clear hK K))
      refine Go.Flo.fw_loud rfl ?_ rfl (by simp) (fun wv hwv hav K hK => ?_) (fun v hv K hK => ?_)
      · (first | exact Go.Mix.wanted_none rfl | exact Go.Mix.wanted_tt rfl rfl rfl | exact Go.Mix.wanted_ff rfl rfl rfl)
      · obtain ⟨iv, rfl⟩ := hwv
        have hbv := HW.out iv
        (first | go_big_op | go_simp)
        go_at_call 53
        refine (Raise_yes L5 zF m d ev lo m _ (by omega) hlo (fun _ _ => by unfold zF; decide) HRS2.out).mono ?_
        rintro e w' ⟨rfl, hb⟩
        exact hK _ _ (Go.Flo.owes_is _ rfl hb)
      obtain rfl := hv.is
      go_simp
      refine hK _ ?_
      clear hK K hv
      (repeat (first | (refine Go.Flo.fw_calm rfl ?_ (fun K hK => ?_); (first | exact Go.Mix.wanted_none rfl | exact Go.Mix.wanted_tt rfl rfl rfl | exact Go.Mix.wanted_ff rfl rfl rfl); go_big_quiet_op; refine hK _ ?_; clear hK K) | (refine Go.Flo.fw_skip ?_ (fun K hK => ?_); (first | exact Go.Mix.wanted_tf rfl rfl rfl | exact Go.Mix.wanted_ft rfl rfl rfl); go_simp; refine hK _ ?_; clear hK K) | (refine Go.Flo.fw_any rfl ?_ (fun K hK => ?_); (first | exact Go.Mix.wanted_none rfl | exact Go.Mix.wanted_tt rfl rfl rfl | exact Go.Mix.wanted_ff rfl rfl rfl); go_simp; (try (go_ints; try go_simp)); refine hK _ ?_; clear hK K)))
      refine Go.Flo.fw_loud rfl ?_ rfl (by simp) (fun wv hwv hav K hK => ?_) (fun v hv K hK => ?_)
      · (first | exact Go.Mix.wanted_none rfl | exact Go.Mix.wanted_tt rfl rfl rfl | exact Go.Mix.wanted_ff rfl rfl rfl)
      · obtain ⟨iv, rfl⟩ := hwv
        (first | go_big_op | go_simp)
        refine hK _ _ (Go.Flo.owes_ptr (HW.out iv).size)
      obtain ⟨g15, hg15, rfl, hng15⟩ := hv.ptr rfl
      go_simp
      refine hK _ ?_
      clear hK K hv
      refine Go.Flo.fw_loud rfl ?_ rfl (by simp) (fun wv hwv hav K hK => ?_) (fun v hv K hK => ?_)
      · (first | exact Go.Mix.wanted_none rfl | exact Go.Mix.wanted_tt rfl rfl rfl | exact Go.Mix.wanted_ff rfl rfl rfl)
      · obtain ⟨iv, rfl⟩ := hwv
        (first | go_big_op | go_simp)
        refine hK _ _ (Go.Flo.owes_ptr (HW.out iv).size)
      obtain ⟨g16, hg16, rfl, hng16⟩ := hv.ptr rfl
      go_simp
      refine hK _ ?_
      clear hK K hv
      have hng : g16 ≠ g15 := fun e => hng16 (e ▸ .inl rfl)
      refine Go.Flo.fw_nil ?_
      intro wc hwwc hfwc huwc
      obtain ⟨iend, hiend⟩ := hwwc
      have hbwc := HW.out iend
      rw [← hiend] at hbwc
      clear hiend iend huwc
      have h9 := Go.Flo.says_ptr ((hfwc (some 16)).2 rfl).1
      have h8 := Go.Flo.says_ptr ((hfwc (some 15)).1.2 rfl).1
      obtain ⟨hq, h9'⟩ := HQ6.out.two hbwc hg15 hg16 hng h8 h9 #[.int .u8 ((L5 0 : Nat) : Int), .int .u8 ((L5 1 : Nat) : Int), .int .u8 ((L5 2 : Nat) : Int), .int .u8 ((L5 3 : Nat) : Int), .int .u8 ((L5 4 : Nat) : Int), .int .u8 ((bump zF m 0 : Nat) : Int), .int .u8 ((bump zF m 1 : Nat) : Int), .int .u8 ((bump zF m 2 : Nat) : Int), .int .u8 ((bump zF m 3 : Nat) : Int), .int .u8 ((bump zF m 4 : Nat) : Int)] #[.int .u8 ((m : Nat) : Int), .int .i64 (d : Int), .int .u8 ((ev : Nat) : Int)]
      have HQ := Lib.hid hq
      clear hfwc HJ HW hne hbwc b0 b1 l0 l1 hng15 hng16 hng hg15 hg16 hq HQ6 HRS2
      clear W I
      refine ⟨fun _ => True, trivial, ?_⟩

      (repeat (first | (refine Go.Mix.walk_calm rfl ?_ (fun K hK => ?_); (first | exact Go.Mix.wanted_none rfl | exact Go.Mix.wanted_tt rfl rfl rfl | exact Go.Mix.wanted_ff rfl rfl rfl); go_big_quiet_op; refine hK _ ?_; clear hK K) | (refine Go.Mix.walk_skip ?_ (fun K hK => ?_); (first | exact Go.Mix.wanted_tf rfl rfl rfl | exact Go.Mix.wanted_ft rfl rfl rfl); go_simp; refine hK _ ?_; clear hK K) | (refine Go.Mix.walk_loud rfl ?_ (fun K hK => ?_); (first | exact Go.Mix.wanted_none rfl | exact Go.Mix.wanted_tt rfl rfl rfl | exact Go.Mix.wanted_ff rfl rfl rfl); (first | go_big_op | go_simp); (first | (refine hK _ _ trivial ?_; clear hK K) | (fail; (try dsimp only); refine hK _ _ trivial ?_; clear hK K))) | (refine Go.Mix.walk_step (fun K hK => ?_); go_simp; (try (go_ints; try go_simp)); refine hK _ _ ?_; clear hK K)))
      (refine Go.Mix.walk_loud rfl ?_ (fun K hK => ?_); (first | exact Go.Mix.wanted_none rfl | exact Go.Mix.wanted_tt rfl rfl rfl | exact Go.Mix.wanted_ff rfl rfl rfl); refine wp_store_row 100 _ _ rfl _ #[.int .u8 ((L5 0 : Nat) : Int), .int .u8 ((L5 1 : Nat) : Int), .int .u8 ((L5 2 : Nat) : Int), .int .u8 ((L5 3 : Nat) : Int), .int .u8 ((L5 4 : Nat) : Int), .int .u8 ((bump zF m 0 : Nat) : Int), .int .u8 ((bump zF m 1 : Nat) : Int), .int .u8 ((bump zF m 2 : Nat) : Int), .int .u8 ((bump zF m 3 : Nat) : Int), .int .u8 ((bump zF m 4 : Nat) : Int)] rfl rfl 100 _ h8 size_ld rfl (by simp [Value.oneCell']) (hK _ _ trivial ?_); clear hK K)
      (repeat (first | (refine Go.Mix.walk_calm rfl ?_ (fun K hK => ?_); (first | exact Go.Mix.wanted_none rfl | exact Go.Mix.wanted_tt rfl rfl rfl | exact Go.Mix.wanted_ff rfl rfl rfl); go_big_quiet_op; refine hK _ ?_; clear hK K) | (refine Go.Mix.walk_skip ?_ (fun K hK => ?_); (first | exact Go.Mix.wanted_tf rfl rfl rfl | exact Go.Mix.wanted_ft rfl rfl rfl); go_simp; refine hK _ ?_; clear hK K) | (refine Go.Mix.walk_loud rfl ?_ (fun K hK => ?_); (first | exact Go.Mix.wanted_none rfl | exact Go.Mix.wanted_tt rfl rfl rfl | exact Go.Mix.wanted_ff rfl rfl rfl); (first | go_big_op | go_simp); (first | (refine hK _ _ trivial ?_; clear hK K) | (fail; (try dsimp only); refine hK _ _ trivial ?_; clear hK K))) | (refine Go.Mix.walk_step (fun K hK => ?_); go_simp; (try (go_ints; try go_simp)); refine hK _ _ ?_; clear hK K)))
      (refine Go.Mix.walk_loud rfl ?_ (fun K hK => ?_); (first | exact Go.Mix.wanted_none rfl | exact Go.Mix.wanted_tt rfl rfl rfl | exact Go.Mix.wanted_ff rfl rfl rfl); refine wp_store_row 84 _ _ rfl _ #[.int .u8 ((m : Nat) : Int), .int .i64 (d : Int), .int .u8 ((ev : Nat) : Int)] rfl rfl 84 _ h9' size_al rfl (by simp [Value.oneCell']) (hK _ _ trivial ?_); clear hK K)
      (repeat (first | (refine Go.Mix.walk_calm rfl ?_ (fun K hK => ?_); (first | exact Go.Mix.wanted_none rfl | exact Go.Mix.wanted_tt rfl rfl rfl | exact Go.Mix.wanted_ff rfl rfl rfl); go_big_quiet_op; refine hK _ ?_; clear hK K) | (refine Go.Mix.walk_skip ?_ (fun K hK => ?_); (first | exact Go.Mix.wanted_tf rfl rfl rfl | exact Go.Mix.wanted_ft rfl rfl rfl); go_simp; refine hK _ ?_; clear hK K) | (refine Go.Mix.walk_loud rfl ?_ (fun K hK => ?_); (first | exact Go.Mix.wanted_none rfl | exact Go.Mix.wanted_tt rfl rfl rfl | exact Go.Mix.wanted_ff rfl rfl rfl); (first | go_big_op | go_simp); (first | (refine hK _ _ trivial ?_; clear hK K) | (fail; (try dsimp only); refine hK _ _ trivial ?_; clear hK K))) | (refine Go.Mix.walk_step (fun K hK => ?_); go_simp; (try (go_ints; try go_simp)); refine hK _ _ ?_; clear hK K)))
      refine Go.Mix.walk_nil ?_
      obtain ⟨w7, hw7⟩ : ∃ w4, w4 = (wc.setRow g15 #[.int .u8 ((L5 0 : Nat) : Int), .int .u8 ((L5 1 : Nat) : Int), .int .u8 ((L5 2 : Nat) : Int), .int .u8 ((L5 3 : Nat) : Int), .int .u8 ((L5 4 : Nat) : Int), .int .u8 ((bump zF m 0 : Nat) : Int), .int .u8 ((bump zF m 1 : Nat) : Int), .int .u8 ((bump zF m 2 : Nat) : Int), .int .u8 ((bump zF m 3 : Nat) : Int), .int .u8 ((bump zF m 4 : Nat) : Int)]).setRow g16 #[.int .u8 ((m : Nat) : Int), .int .i64 (d : Int), .int .u8 ((ev : Nat) : Int)] := ⟨_, rfl⟩
      rw [← hw7] at HQ ⊢
      clear hw7 h8 h9 h9'
      go_upto_region 13 with fail
      have b1 := HQ.out.of 1 rfl
      go_upto_region 14 with (first | ((with_reducible show wpList _ _ _ (_ :: _) _ _); refine wpList_load_row rfl 84 _ rfl _ rfl _ _ _ _ b1 Try.underlying84 rfl (by exact size_al) ?_; (try go_simp)) | ((with_reducible show wpList _ _ _ (_ :: _) _ _); refine wpList_store_row rfl 84 _ _ rfl _ _ rfl rfl _ _ (heap_alloc_new _ _) (by exact size_al) (by rfl) (by simp [Value.oneCell']) ?_; rw [World.setRow_alloc_new]))
      have HQ8 := Lib.hid (HQ.out.new #[.int .u8 ((m : Nat) : Int), .int .i64 (d : Int), .int .u8 ((ev : Nat) : Int)] 84)
      obtain ⟨w8, hw8⟩ : ∃ w8, w8 = w7.alloc (.cells #[.int .u8 ((m : Nat) : Int), .int .i64 (d : Int), .int .u8 ((ev : Nat) : Int)] 84) := ⟨_, rfl⟩
      obtain ⟨g18, hg18⟩ : ∃ g, g = w7.heap.size := ⟨_, rfl⟩
      rw [← hw8, ← hg18] at HQ8
      rw [← hw8, ← hg18]
      clear hw8 hg18 b1 HQ
      have b18 := HQ8.out.of 8 rfl
      have c0 := cell_of_row _ _ 0 _ _ _ b18
      have f0 := frozen_of_row _ _ 0 _ _ b18
      have hv := HQ8.out.set 8 rfl 0 (.int .u8 ((m + 5 : Nat) : Int))
      have HV := Lib.hid hv
      clear b18 hv HQ8
      go_upto_region 15 with fail
      have hV : Bq w (w8.setCell ⟨g18, 0, none⟩ (.int .u8 ((m : Int) + 5))) _ := HV.out
      obtain ⟨w9, hw9⟩ : ∃ w9, w9 = w8.setCell ⟨g18, 0, none⟩ (.int .u8 ((m : Int) + 5)) := ⟨_, rfl⟩
      rw [← hw9] at hV ⊢
      clear hw9 c0 f0 HV
      have b0 := hV.of 0 rfl
      have b18 : w9.heap[g18]? = some (.cells #[.int .u8 (((m + 5) : Nat) : Int), .int .i64 (d : Int), .int .u8 ((ev : Nat) : Int)] 84 (0, 0)) := hV.of 8 rfl
      have HV := Lib.hid hV
      clear hV
      go_wp2_with (first | ((with_reducible show wpList _ _ _ (_ :: _) _ _); refine wpList_load_row rfl 100 _ rfl _ rfl _ _ _ _ b0 Try.underlying100 rfl (by exact size_ld) ?_; (try go_simp)) | ((with_reducible show wpList _ _ _ (_ :: _) _ _); refine wpList_load_row rfl 84 _ rfl _ rfl _ _ _ _ b18 Try.underlying84 rfl (by exact size_al) ?_; (try go_simp)))
      refine (Raise_no L5 C (m + 5) d ev inh _ (by omega) hinh (rs_bad _ _ _ _ (by omega))).mono ?_
      rintro e w10 ⟨rfl, hb⟩
      have HQ10 := Lib.hid (HV.out.step hb)
      clear hb HV b0 b18
      skip
      obtain ⟨hq0, q1, q2⟩ := HQ10.out.pair #[.int .u8 0, .int .u8 0, .int .u8 0, .int .u8 0, .int .u8 0, .int .u8 0, .int .u8 0, .int .u8 0, .int .u8 0, .int .u8 0] #[.int .u8 0, .int .i64 0, .int .u8 0] #[.int .u8 ((L5 0 : Nat) : Int), .int .u8 ((L5 1 : Nat) : Int), .int .u8 ((L5 2 : Nat) : Int), .int .u8 ((L5 3 : Nat) : Int), .int .u8 ((L5 4 : Nat) : Int), .int .u8 ((C 0 : Nat) : Int), .int .u8 ((C 1 : Nat) : Int), .int .u8 ((C 2 : Nat) : Int), .int .u8 ((C 3 : Nat) : Int), .int .u8 ((C 4 : Nat) : Int)] #[.int .u8 0, .int .i64 0, .int .u8 0] 100 84
      obtain ⟨wA, hwA⟩ : ∃ xW, (w10.alloc (.cells #[.int .u8 0, .int .u8 0, .int .u8 0, .int .u8 0, .int .u8 0, .int .u8 0, .int .u8 0, .int .u8 0, .int .u8 0, .int .u8 0] 100)).alloc (.cells #[.int .u8 0, .int .i64 0, .int .u8 0] 84) = xW := ⟨_, rfl⟩
      rw [hwA] at hq0 q1 q2
      obtain ⟨wB, hwB⟩ : ∃ xW, wA.setRow w10.heap.size #[.int .u8 ((L5 0 : Nat) : Int), .int .u8 ((L5 1 : Nat) : Int), .int .u8 ((L5 2 : Nat) : Int), .int .u8 ((L5 3 : Nat) : Int), .int .u8 ((L5 4 : Nat) : Int), .int .u8 ((C 0 : Nat) : Int), .int .u8 ((C 1 : Nat) : Int), .int .u8 ((C 2 : Nat) : Int), .int .u8 ((C 3 : Nat) : Int), .int .u8 ((C 4 : Nat) : Int)] = xW := ⟨_, rfl⟩
      rw [hwB] at hq0 q2
      obtain ⟨wC, hwC⟩ : ∃ xW, wB.setRow (w10.heap.size + 1) #[.int .u8 0, .int .i64 0, .int .u8 0] = xW := ⟨_, rfl⟩
      rw [hwC] at hq0
      have HQ11 := Lib.hid hq0
      clear hq0 HQ10
      go_upto_region 16 with (first | ((with_reducible show wpList _ _ _ (_ :: _) _ _); (try rw [hwA]); refine wpList_store_row rfl 100 _ _ rfl _ _ rfl rfl _ _ q1 (by exact size_ld) (by rfl) (by simp [Value.oneCell']) ?_; rw [hwB]) | ((with_reducible show wpList _ _ _ (_ :: _) _ _); refine wpList_store_row rfl 84 _ _ rfl _ _ rfl rfl _ _ q2 (by exact size_al) (by rfl) (by simp [Value.oneCell']) ?_; rw [hwC]))
      clear q1 q2 hwA hwB hwC
      have b1 := HQ11.out.of 1 rfl
      have b9 := HQ11.out.of 3 rfl
      have b16 := HQ11.out.of 7 rfl
      have c0 := cell_of_row _ _ 0 _ _ _ b1
      have c1 := cell_of_row _ _ 1 _ _ _ b1
      have c2 := cell_of_row _ _ 2 _ _ _ b1
      have d0 := cell_of_row _ _ 0 _ _ _ b9
      have d1 := cell_of_row _ _ 1 _ _ _ b9
      have d2 := cell_of_row _ _ 2 _ _ _ b9
      have k0 := cell_of_row _ _ 0 _ _ _ b16
      have k1 := cell_of_row _ _ 1 _ _ _ b16
      have k2 := cell_of_row _ _ 2 _ _ _ b16
      clear b1 b9 b16
      go_wp2_with fail
      go_ret
      exact ⟨rfl, HQ11.out.be⟩
end Go.Proofs.Ytinaimacocgemaa
