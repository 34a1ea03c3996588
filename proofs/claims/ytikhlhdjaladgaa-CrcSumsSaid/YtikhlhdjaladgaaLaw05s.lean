/- CrcSums -/
import Derived.Test.YtikhlhdjaladgaaLaw05
namespace Go.Proofs.Ytikhlhdjaladgaa
open Go.RowKit Go.Own
set_option linter.unusedVariables false
set_option linter.unusedSimpArgs false

theorem ret_true05 {b : Bool} (h : b = true) : Ending.returned (.bool b) = .returned (.bool true) := by rw [h]
theorem take_drop_sum (l : List Nat) (k : Nat) : Cr.sum (l.take k ++ l.drop k) = Cr.sum l := by rw [List.take_append_drop]

set_option maxRecDepth 100000 in
set_option maxHeartbeats 4000000 in
theorem walk_CrcSums (a0 : Option Addr) (len0 cap0 : Nat) (z : List Int) (cut : Int) (w : World) (w0 : IsRow .u8 w a0 len0 cap0 z) (wcut : (Lit.int .u16 cut).wf = true) :
    Calls Try.prog 3 #[.slice a0 len0 cap0, .int .u16 cut] w fun e w' => e = .returned (.bool true) ∧ Below w.heap.size w w' := by
  obtain ⟨l0, hl0, hb0, hr0⟩ := isRow_rd w0
  obtain ⟨c0, c1⟩ := bounds_u16 wcut
  obtain ⟨ct, rfl⟩ := Int.eq_ofNat_of_zero_le c0
  have hz := zero_tab
  have HR0 := Lib.hid hr0
  have HL0 := Lib.hid hl0
  have h1 := hr0.le
  have h2 := hr0.top
  unfold maxLen at h2
  clear wcut w0 hr0 hl0
  go_enter Try.func3, Try.ntmps3
  go_wp2_with (go_at_call 10; refine (awake05 _).mono ?_; rintro e w1 ⟨rfl, hb1⟩)
  go_at_call 11
  refine (Cut_any a0 len0 cap0 l0 200 _ HL0.out ((HR0.out.below hb1).mono hb1.size) (by omega)).mono ?_
  rintro e w2 ⟨v, rfl, hown, hb2⟩
  obtain ⟨l, hl⟩ : ∃ l, l = l0.take 200 := ⟨_, rfl⟩
  have hlb : bytes l := by rw [hl]; exact hb0.take 200
  obtain ⟨m, hm⟩ : ∃ m, m = min 200 len0 := ⟨_, rfl⟩
  have hlm : l.length = m := by rw [hl, hm]; exact bytes_take HL0.out
  have hm2 : m ≤ 200 := by omega
  rw [← hl, ← hm] at hown
  obtain ⟨a, c, rfl⟩ := own_form hown
  have hr := rd_of_own hown (fun i hi => bl_at l (by omega))
  have hB2 := hb1.trans (hb2.mono hb1.size)
  have hmc := hr.le
  have HLM := Lib.hid hlm
  have HR2 := Lib.hid hr
  have hc2 := hr.top
  unfold maxLen at hc2
  clear hl hm hown hr hlm
  go_wp2_with fail
  go_at_call 12
  refine (Make_any _).mono ?_
  rintro e w3 ⟨rfl, hb3⟩
  have hB3 := hB2.trans (hb3.mono hB2.size)
  have HR3 := Lib.hid (rd_grow HR2.out hb3)
  clear HR2 hB2 hb1 hb2 hb3
  obtain ⟨k, hk, hkm⟩ : ∃ k : Nat, ((ct < m ∧ k = ct) ∨ (m = ct ∧ k = m) ∨ (m < ct ∧ k = m)) ∧ k ≤ m := by
    rcases Nat.lt_or_ge ct m with h | h
    · exact ⟨ct, .inl ⟨h, rfl⟩, by omega⟩
    · rcases Nat.eq_or_lt_of_le h with h | h
      · exact ⟨m, .inr (.inl ⟨h, rfl⟩), by omega⟩
      · exact ⟨m, .inr (.inr ⟨h, rfl⟩), by omega⟩
  rcases hk with ⟨hk, rfl⟩ | ⟨hk, rfl⟩ | ⟨hk, rfl⟩
  · go_wp2_with (refine wpList_store_row rfl 27 _ _ rfl w3.heap.size tabV rfl rfl 27 (rowV 0) (heap_alloc_new _ _) size_tab' (by rw [rowV_size, tabV_size]) tabV_one ?_; rw [World.setRow_alloc_new])
    have hT := IsTab.new w3
    obtain ⟨w4, hw4⟩ : ∃ w4, w4 = w3.alloc (.cells tabV 27) := ⟨_, rfl⟩
    have hb4 : Below w3.heap.size w3 w4 := by rw [hw4]; exact (Below.refl _ _).alloc (Nat.le_refl _) _
    obtain ⟨gt, hgt⟩ : ∃ gt, gt = w3.heap.size := ⟨_, rfl⟩
    have hg4 : gt < w4.heap.size := by rw [hw4, hgt]; simp
    have hB4 := hB3.trans (hb4.mono hB3.size)
    have HR4 := Lib.hid (rd_grow HR3.out hb4)
    rw [← hw4, ← hgt] at hT
    rw [← hw4, ← hgt]
    clear hw4 hgt HR3 hb4 hB3 hz
    go_loop [7, 23] (fun v i => ∃ j : Nat, j ≤ m ∧ i = .int .i64 j ∧ v = .int .u16 (Cr.sum (l.take j) : Nat)) (fun _ i => m - (intOf i).toNat)
    case atStart => exact ⟨0, Nat.zero_le _, rfl, rfl⟩
    case round =>
      obtain ⟨j, hj, rfl, rfl⟩ := hrel
      have hlt0 := Cr.sum_lt _ (hlb.take j)
      by_cases hlt : j < m
      · obtain ⟨b, off, ha, _, hc⟩ := HR4.out.at hlt
        unfold bv at hc
        have hx := hlb.at j
        have hs : Cr.sum (l.take (j + 1)) = Cr.step (Cr.sum (l.take j)) (l.getD j 0) := sumFrom_take _ l j (by rw [HLM.out]; exact hlt)
        obtain ⟨x, hx'⟩ : ∃ x, x = l.getD j 0 := ⟨_, rfl⟩
        obtain ⟨s0, hs0⟩ : ∃ s0, s0 = Cr.sum (l.take j) := ⟨_, rfl⟩
        rw [← hx'] at hc hx hs
        rw [← hs0] at hs hlt0 ⊢
        have HS := Lib.hid hs
        clear hs hx' hs0
        subst ha
        go_wp2_with (go_at_call 13; (refine (Step_any s0 x _ hlt0 hx).mono ?_); rintro e w' ⟨rfl, rfl⟩)
        go_round
        case rel => exact ⟨j + 1, by omega, by go_num, by rw [HS.out]⟩
        case measure => simp [intOf]; omega
      · obtain rfl : j = m := by omega
        have ht : l.take j = l := List.take_of_length_le (by rw [HLM.out]; exact Nat.le_refl _)
        rw [ht] at hlt0 ⊢
        have hk4 := (HR4.out.first (k := k) hkm).same (g := bv (l.take k)) (fun i hi => by unfold bv; simp [List.getD, hi])
        have hr4 : Rd w4.heap.size w4 (Option.map (fun x => x.add k) a) (j - k) (c - k) (bv (l.drop k)) := by
          have h := (HR4.out.rest (k := k) hkm).same (g := bv (l.drop k)) (fun i hi => by unfold bv; simp [List.getD])
          rw [if_neg (by omega)] at h
          exact h
        have hl1 : (l.take k).length = k := by rw [List.length_take, HLM.out]; omega
        have hl2 : (l.drop k).length = j - k := by rw [List.length_drop, HLM.out] <;> omega
        have HK4 := Lib.hid hk4
        have HRR4 := Lib.hid hr4
        have HL1 := Lib.hid hl1
        have HL2 := Lib.hid hl2
        clear hk4 hr4 hl1 hl2
        have htd := take_drop_sum l k
        obtain ⟨s, hs'⟩ : ∃ s, s = Cr.sum l := ⟨_, rfl⟩
        rw [← hs'] at hlt0 htd ⊢
        have HS := Lib.hid hs'
        have HTD := Lib.hid htd
        clear ht hs' htd
        go_wp2_with fail
        go_at_call 14
        refine (rSum_any _ _ _ _ l _ HLM.out HR4.out hlb).mono ?_
        rintro e w' ⟨rfl, rfl⟩
        rw [← HS.out]
        go_wp2
        obtain ⟨I, W, hne, hWI, hIW⟩ := Go.Mix.family (fun v => Below w4.heap.size w4 v) (Below.refl _ _)
        have HJ := Lib.hid hIW
        have HW := Lib.hid hWI
        clear hWI hIW
        refine Go.Flo.wp_region (fun w' => ∃ i, w' = W i) 30 [Go.Flo.Spec.row w4.heap.size 1 #[.slice a j c] 22, Go.Flo.Spec.is (.int .u16 (s : Nat)), Go.Flo.Spec.row w4.heap.size 2 #[.slice a k c, .slice (Option.map (fun x => x.add k) a) (j - k) (c - k)] 22, Go.Flo.Spec.is (.int .u16 (s : Nat)), Go.Flo.Spec.is (.int .u16 65535)] (by kernel_rfl) (by kernel_rfl) (by decide) (by rintro _ w' ⟨i, rfl⟩ hb; exact HJ.out _ ((HW.out i).trans (hb.mono (HW.out i).size))) (HJ.out _ (Below.refl _ _).drew) ?_
        simp only [Go.Flo.pair, Go.Mix.calm, List.take, List.drop, if_true, Bool.false_eq_true, if_false, Nat.reduceAdd, Nat.reduceSub]
        (refine Go.Flo.fw_calm rfl ?_ (fun K hK => ?_); (first | exact Go.Mix.wanted_none rfl | exact Go.Mix.wanted_tt rfl rfl rfl | exact Go.Mix.wanted_ff rfl rfl rfl); refine Go.Flo.quiet_load_row 27 _ rfl gt rfl _ _ _ (by rintro _ ⟨i, rfl⟩; exact hT.below (HW.out i) hg4) Try.underlying27 rfl size_tab' ?_; go_simp; refine hK _ ?_; clear hK K)
        (repeat (first | (refine Go.Flo.fw_calm rfl ?_ (fun K hK => ?_); (first | exact Go.Mix.wanted_none rfl | exact Go.Mix.wanted_tt rfl rfl rfl | exact Go.Mix.wanted_ff rfl rfl rfl); go_big_quiet_op; refine hK _ ?_; clear hK K) | (refine Go.Flo.fw_skip ?_ (fun K hK => ?_); (first | exact Go.Mix.wanted_tf rfl rfl rfl | exact Go.Mix.wanted_ft rfl rfl rfl); go_simp; refine hK _ ?_; clear hK K) | (refine Go.Flo.fw_any rfl ?_ (fun K hK => ?_); (first | exact Go.Mix.wanted_none rfl | exact Go.Mix.wanted_tt rfl rfl rfl | exact Go.Mix.wanted_ff rfl rfl rfl); go_simp; (try (go_ints; try go_simp)); refine hK _ ?_; clear hK K)))
        refine Go.Flo.fw_loud rfl ?_ rfl (by simp) (fun wv hwv hav K hK => ?_) (fun v hv K hK => ?_)
        · (first | exact Go.Mix.wanted_none rfl | exact Go.Mix.wanted_tt rfl rfl rfl | exact Go.Mix.wanted_ff rfl rfl rfl)
        · obtain ⟨iv, rfl⟩ := hwv
          (first | go_big_op | go_simp)
          refine hK _ _ (Go.Flo.owes_row (HW.out iv).size)
        obtain ⟨g5, hg5, rfl⟩ := hv.row
        go_simp
        refine hK _ ?_
        clear hK K hv
        refine Go.Flo.fw_loud rfl ?_ rfl (by simp) (fun wv hwv hav K hK => ?_) (fun v hv K hK => ?_)
        · (first | exact Go.Mix.wanted_none rfl | exact Go.Mix.wanted_tt rfl rfl rfl | exact Go.Mix.wanted_ff rfl rfl rfl)
        · obtain ⟨iv, rfl⟩ := hwv
          have hbv := HW.out iv
          (first | go_big_op | go_simp)
          have hs := Go.Flo.says_row ((hav 35 (by decide +kernel)).2 rfl).1
          go_at_call 15
          refine (TSum1 HLM.out hs (rd_grow HR4.out hbv) (Nat.le_refl _) hlb).mono ?_
          rintro e w' ⟨rfl, hbb⟩
          rw [← HS.out]
          exact hK _ _ (Go.Flo.owes_is _ rfl hbb)
        obtain rfl := hv.is
        go_simp
        refine hK _ ?_
        clear hK K hv
        (repeat (first | (refine Go.Flo.fw_calm rfl ?_ (fun K hK => ?_); (first | exact Go.Mix.wanted_none rfl | exact Go.Mix.wanted_tt rfl rfl rfl | exact Go.Mix.wanted_ff rfl rfl rfl); go_big_quiet_op; refine hK _ ?_; clear hK K) | (refine Go.Flo.fw_skip ?_ (fun K hK => ?_); (first | exact Go.Mix.wanted_tf rfl rfl rfl | exact Go.Mix.wanted_ft rfl rfl rfl); go_simp; refine hK _ ?_; clear hK K) | (refine Go.Flo.fw_any rfl ?_ (fun K hK => ?_); (first | exact Go.Mix.wanted_none rfl | exact Go.Mix.wanted_tt rfl rfl rfl | exact Go.Mix.wanted_ff rfl rfl rfl); go_simp; (try (go_ints; try go_simp)); refine hK _ ?_; clear hK K)))
        (refine Go.Flo.fw_calm rfl ?_ (fun K hK => ?_); (first | exact Go.Mix.wanted_none rfl | exact Go.Mix.wanted_tt rfl rfl rfl | exact Go.Mix.wanted_ff rfl rfl rfl); refine Go.Flo.quiet_load_row 27 _ rfl gt rfl _ _ _ (by rintro _ ⟨i, rfl⟩; exact hT.below (HW.out i) hg4) Try.underlying27 rfl size_tab' ?_; go_simp; refine hK _ ?_; clear hK K)
        (repeat (first | (refine Go.Flo.fw_calm rfl ?_ (fun K hK => ?_); (first | exact Go.Mix.wanted_none rfl | exact Go.Mix.wanted_tt rfl rfl rfl | exact Go.Mix.wanted_ff rfl rfl rfl); go_big_quiet_op; refine hK _ ?_; clear hK K) | (refine Go.Flo.fw_skip ?_ (fun K hK => ?_); (first | exact Go.Mix.wanted_tf rfl rfl rfl | exact Go.Mix.wanted_ft rfl rfl rfl); go_simp; refine hK _ ?_; clear hK K) | (refine Go.Flo.fw_any rfl ?_ (fun K hK => ?_); (first | exact Go.Mix.wanted_none rfl | exact Go.Mix.wanted_tt rfl rfl rfl | exact Go.Mix.wanted_ff rfl rfl rfl); go_simp; (try (go_ints; try go_simp)); refine hK _ ?_; clear hK K)))
        refine Go.Flo.fw_loud rfl ?_ rfl (by simp) (fun wv hwv hav K hK => ?_) (fun v hv K hK => ?_)
        · (first | exact Go.Mix.wanted_none rfl | exact Go.Mix.wanted_tt rfl rfl rfl | exact Go.Mix.wanted_ff rfl rfl rfl)
        · obtain ⟨iv, rfl⟩ := hwv
          (first | go_big_op | go_simp)
          refine hK _ _ (Go.Flo.owes_row (HW.out iv).size)
        obtain ⟨g6, hg6, rfl⟩ := hv.row
        go_simp
        refine hK _ ?_
        clear hK K hv
        refine Go.Flo.fw_loud rfl ?_ rfl (by simp) (fun wv hwv hav K hK => ?_) (fun v hv K hK => ?_)
        · (first | exact Go.Mix.wanted_none rfl | exact Go.Mix.wanted_tt rfl rfl rfl | exact Go.Mix.wanted_ff rfl rfl rfl)
        · obtain ⟨iv, rfl⟩ := hwv
          have hbv := HW.out iv
          (first | go_big_op | go_simp)
          have hs := Go.Flo.says_row ((hav 47 (by decide +kernel)).2 rfl).1
          go_at_call 15
          refine (TSum2 (l := l.take k) (m := l.drop k) HL1.out HL2.out hs (rd_grow HK4.out hbv) (rd_grow HRR4.out hbv) (Nat.le_refl _) (Nat.le_refl _) (hlb.take _) (hlb.drop _)).mono ?_
          rintro e w' ⟨rfl, hbb⟩
          rw [HTD.out]
          exact hK _ _ (Go.Flo.owes_is _ rfl hbb)
        obtain rfl := hv.is
        go_simp
        refine hK _ ?_
        clear hK K hv
        (repeat (first | (refine Go.Flo.fw_calm rfl ?_ (fun K hK => ?_); (first | exact Go.Mix.wanted_none rfl | exact Go.Mix.wanted_tt rfl rfl rfl | exact Go.Mix.wanted_ff rfl rfl rfl); go_big_quiet_op; refine hK _ ?_; clear hK K) | (refine Go.Flo.fw_skip ?_ (fun K hK => ?_); (first | exact Go.Mix.wanted_tf rfl rfl rfl | exact Go.Mix.wanted_ft rfl rfl rfl); go_simp; refine hK _ ?_; clear hK K) | (refine Go.Flo.fw_any rfl ?_ (fun K hK => ?_); (first | exact Go.Mix.wanted_none rfl | exact Go.Mix.wanted_tt rfl rfl rfl | exact Go.Mix.wanted_ff rfl rfl rfl); go_simp; (try (go_ints; try go_simp)); refine hK _ ?_; clear hK K)))
        (refine Go.Flo.fw_calm rfl ?_ (fun K hK => ?_); (first | exact Go.Mix.wanted_none rfl | exact Go.Mix.wanted_tt rfl rfl rfl | exact Go.Mix.wanted_ff rfl rfl rfl); refine Go.Flo.quiet_load_row 27 _ rfl gt rfl _ _ _ (by rintro _ ⟨i, rfl⟩; exact hT.below (HW.out i) hg4) Try.underlying27 rfl size_tab' ?_; go_simp; refine hK _ ?_; clear hK K)
        refine Go.Flo.fw_loud rfl ?_ rfl (by simp) (fun wv hwv hav K hK => ?_) (fun v hv K hK => ?_)
        · (first | exact Go.Mix.wanted_none rfl | exact Go.Mix.wanted_tt rfl rfl rfl | exact Go.Mix.wanted_ff rfl rfl rfl)
        · obtain ⟨iv, rfl⟩ := hwv
          have hbv := HW.out iv
          (first | go_big_op | go_simp)
          go_at_call 15
          refine (TSum0 _).mono ?_
          rintro e w' ⟨rfl, hbb⟩
          exact hK _ _ (Go.Flo.owes_is _ rfl hbb)
        obtain rfl := hv.is
        go_simp
        refine hK _ ?_
        clear hK K hv
        (repeat (first | (refine Go.Flo.fw_calm rfl ?_ (fun K hK => ?_); (first | exact Go.Mix.wanted_none rfl | exact Go.Mix.wanted_tt rfl rfl rfl | exact Go.Mix.wanted_ff rfl rfl rfl); go_big_quiet_op; refine hK _ ?_; clear hK K) | (refine Go.Flo.fw_skip ?_ (fun K hK => ?_); (first | exact Go.Mix.wanted_tf rfl rfl rfl | exact Go.Mix.wanted_ft rfl rfl rfl); go_simp; refine hK _ ?_; clear hK K) | (refine Go.Flo.fw_any rfl ?_ (fun K hK => ?_); (first | exact Go.Mix.wanted_none rfl | exact Go.Mix.wanted_tt rfl rfl rfl | exact Go.Mix.wanted_ff rfl rfl rfl); go_simp; (try (go_ints; try go_simp)); refine hK _ ?_; clear hK K)))
        refine Go.Flo.fw_nil ?_
        intro w5 hww5 hfw5 huw5
        refine Go.Flo.tw_nil ?_
        obtain ⟨iend, hiend⟩ := hww5
        have hbw5 := HW.out iend
        rw [← hiend] at hbw5
        clear hiend iend huw5
        clear hfw5
        go_wp2
        all_goals
          go_ret
          exact ⟨ret_true05 (by simp), hB4.trans (hbw5.mono hB4.size)⟩
  · subst hk
    go_wp2_with (refine wpList_store_row rfl 27 _ _ rfl w3.heap.size tabV rfl rfl 27 (rowV 0) (heap_alloc_new _ _) size_tab' (by rw [rowV_size, tabV_size]) tabV_one ?_; rw [World.setRow_alloc_new])
    have hT := IsTab.new w3
    obtain ⟨w4, hw4⟩ : ∃ w4, w4 = w3.alloc (.cells tabV 27) := ⟨_, rfl⟩
    have hb4 : Below w3.heap.size w3 w4 := by rw [hw4]; exact (Below.refl _ _).alloc (Nat.le_refl _) _
    obtain ⟨gt, hgt⟩ : ∃ gt, gt = w3.heap.size := ⟨_, rfl⟩
    have hg4 : gt < w4.heap.size := by rw [hw4, hgt]; simp
    have hB4 := hB3.trans (hb4.mono hB3.size)
    have HR4 := Lib.hid (rd_grow HR3.out hb4)
    rw [← hw4, ← hgt] at hT
    rw [← hw4, ← hgt]
    clear hw4 hgt HR3 hb4 hB3 hz
    go_loop [7, 23] (fun v i => ∃ j : Nat, j ≤ k ∧ i = .int .i64 j ∧ v = .int .u16 (Cr.sum (l.take j) : Nat)) (fun _ i => k - (intOf i).toNat)
    case atStart => exact ⟨0, Nat.zero_le _, rfl, rfl⟩
    case round =>
      obtain ⟨j, hj, rfl, rfl⟩ := hrel
      have hlt0 := Cr.sum_lt _ (hlb.take j)
      by_cases hlt : j < k
      · obtain ⟨b, off, ha, _, hc⟩ := HR4.out.at hlt
        unfold bv at hc
        have hx := hlb.at j
        have hs : Cr.sum (l.take (j + 1)) = Cr.step (Cr.sum (l.take j)) (l.getD j 0) := sumFrom_take _ l j (by rw [HLM.out]; exact hlt)
        obtain ⟨x, hx'⟩ : ∃ x, x = l.getD j 0 := ⟨_, rfl⟩
        obtain ⟨s0, hs0⟩ : ∃ s0, s0 = Cr.sum (l.take j) := ⟨_, rfl⟩
        rw [← hx'] at hc hx hs
        rw [← hs0] at hs hlt0 ⊢
        have HS := Lib.hid hs
        clear hs hx' hs0
        subst ha
        go_wp2_with (go_at_call 13; (refine (Step_any s0 x _ hlt0 hx).mono ?_); rintro e w' ⟨rfl, rfl⟩)
        go_round
        case rel => exact ⟨j + 1, by omega, by go_num, by rw [HS.out]⟩
        case measure => simp [intOf]; omega
      · obtain rfl : j = k := by omega
        have ht : l.take j = l := List.take_of_length_le (by rw [HLM.out]; exact Nat.le_refl _)
        rw [ht] at hlt0 ⊢
        have hk4 := (HR4.out.first (k := j) hkm).same (g := bv (l.take j)) (fun i hi => by unfold bv; simp [List.getD, hi])
        have hr4 : Rd w4.heap.size w4 (if c = j then a else Option.map (fun x => x.add j) a) (0) (c - j) (bv (l.drop j)) := by
          have h := (HR4.out.rest (k := j) hkm).same (g := bv (l.drop j)) (fun i hi => by unfold bv; simp [List.getD])
          rw [Nat.sub_self] at h
          exact h
        have hl1 : (l.take j).length = j := by rw [List.length_take, HLM.out]; omega
        have hl2 : (l.drop j).length = 0 := by rw [List.length_drop, HLM.out] <;> omega
        have HK4 := Lib.hid hk4
        have HRR4 := Lib.hid hr4
        have HL1 := Lib.hid hl1
        have HL2 := Lib.hid hl2
        clear hk4 hr4 hl1 hl2
        have htd := take_drop_sum l j
        obtain ⟨s, hs'⟩ : ∃ s, s = Cr.sum l := ⟨_, rfl⟩
        rw [← hs'] at hlt0 htd ⊢
        have HS := Lib.hid hs'
        have HTD := Lib.hid htd
        clear ht hs' htd
        go_wp2_with fail
        go_at_call 14
        refine (rSum_any _ _ _ _ l _ HLM.out HR4.out hlb).mono ?_
        rintro e w' ⟨rfl, rfl⟩
        rw [← HS.out]
        go_wp2
        obtain ⟨I, W, hne, hWI, hIW⟩ := Go.Mix.family (fun v => Below w4.heap.size w4 v) (Below.refl _ _)
        have HJ := Lib.hid hIW
        have HW := Lib.hid hWI
        clear hWI hIW
        refine Go.Flo.wp_region (fun w' => ∃ i, w' = W i) 30 [Go.Flo.Spec.row w4.heap.size 1 #[.slice a j c] 22, Go.Flo.Spec.is (.int .u16 (s : Nat)), Go.Flo.Spec.row w4.heap.size 2 #[.slice a j c, .slice (if c = j then a else Option.map (fun x => x.add j) a) (0) (c - j)] 22, Go.Flo.Spec.is (.int .u16 (s : Nat)), Go.Flo.Spec.is (.int .u16 65535)] (by kernel_rfl) (by kernel_rfl) (by decide) (by rintro _ w' ⟨i, rfl⟩ hb; exact HJ.out _ ((HW.out i).trans (hb.mono (HW.out i).size))) (HJ.out _ (Below.refl _ _).drew) ?_
        simp only [Go.Flo.pair, Go.Mix.calm, List.take, List.drop, if_true, Bool.false_eq_true, if_false, Nat.reduceAdd, Nat.reduceSub]
        (refine Go.Flo.fw_calm rfl ?_ (fun K hK => ?_); (first | exact Go.Mix.wanted_none rfl | exact Go.Mix.wanted_tt rfl rfl rfl | exact Go.Mix.wanted_ff rfl rfl rfl); refine Go.Flo.quiet_load_row 27 _ rfl gt rfl _ _ _ (by rintro _ ⟨i, rfl⟩; exact hT.below (HW.out i) hg4) Try.underlying27 rfl size_tab' ?_; go_simp; refine hK _ ?_; clear hK K)
        (repeat (first | (refine Go.Flo.fw_calm rfl ?_ (fun K hK => ?_); (first | exact Go.Mix.wanted_none rfl | exact Go.Mix.wanted_tt rfl rfl rfl | exact Go.Mix.wanted_ff rfl rfl rfl); go_big_quiet_op; refine hK _ ?_; clear hK K) | (refine Go.Flo.fw_skip ?_ (fun K hK => ?_); (first | exact Go.Mix.wanted_tf rfl rfl rfl | exact Go.Mix.wanted_ft rfl rfl rfl); go_simp; refine hK _ ?_; clear hK K) | (refine Go.Flo.fw_any rfl ?_ (fun K hK => ?_); (first | exact Go.Mix.wanted_none rfl | exact Go.Mix.wanted_tt rfl rfl rfl | exact Go.Mix.wanted_ff rfl rfl rfl); go_simp; (try (go_ints; try go_simp)); refine hK _ ?_; clear hK K)))
        refine Go.Flo.fw_loud rfl ?_ rfl (by simp) (fun wv hwv hav K hK => ?_) (fun v hv K hK => ?_)
        · (first | exact Go.Mix.wanted_none rfl | exact Go.Mix.wanted_tt rfl rfl rfl | exact Go.Mix.wanted_ff rfl rfl rfl)
        · obtain ⟨iv, rfl⟩ := hwv
          (first | go_big_op | go_simp)
          refine hK _ _ (Go.Flo.owes_row (HW.out iv).size)
        obtain ⟨g5, hg5, rfl⟩ := hv.row
        go_simp
        refine hK _ ?_
        clear hK K hv
        refine Go.Flo.fw_loud rfl ?_ rfl (by simp) (fun wv hwv hav K hK => ?_) (fun v hv K hK => ?_)
        · (first | exact Go.Mix.wanted_none rfl | exact Go.Mix.wanted_tt rfl rfl rfl | exact Go.Mix.wanted_ff rfl rfl rfl)
        · obtain ⟨iv, rfl⟩ := hwv
          have hbv := HW.out iv
          (first | go_big_op | go_simp)
          have hs := Go.Flo.says_row ((hav 35 (by decide +kernel)).2 rfl).1
          go_at_call 15
          refine (TSum1 HLM.out hs (rd_grow HR4.out hbv) (Nat.le_refl _) hlb).mono ?_
          rintro e w' ⟨rfl, hbb⟩
          rw [← HS.out]
          exact hK _ _ (Go.Flo.owes_is _ rfl hbb)
        obtain rfl := hv.is
        go_simp
        refine hK _ ?_
        clear hK K hv
        (repeat (first | (refine Go.Flo.fw_calm rfl ?_ (fun K hK => ?_); (first | exact Go.Mix.wanted_none rfl | exact Go.Mix.wanted_tt rfl rfl rfl | exact Go.Mix.wanted_ff rfl rfl rfl); go_big_quiet_op; refine hK _ ?_; clear hK K) | (refine Go.Flo.fw_skip ?_ (fun K hK => ?_); (first | exact Go.Mix.wanted_tf rfl rfl rfl | exact Go.Mix.wanted_ft rfl rfl rfl); go_simp; refine hK _ ?_; clear hK K) | (refine Go.Flo.fw_any rfl ?_ (fun K hK => ?_); (first | exact Go.Mix.wanted_none rfl | exact Go.Mix.wanted_tt rfl rfl rfl | exact Go.Mix.wanted_ff rfl rfl rfl); go_simp; (try (go_ints; try go_simp)); refine hK _ ?_; clear hK K)))
        (refine Go.Flo.fw_calm rfl ?_ (fun K hK => ?_); (first | exact Go.Mix.wanted_none rfl | exact Go.Mix.wanted_tt rfl rfl rfl | exact Go.Mix.wanted_ff rfl rfl rfl); refine Go.Flo.quiet_load_row 27 _ rfl gt rfl _ _ _ (by rintro _ ⟨i, rfl⟩; exact hT.below (HW.out i) hg4) Try.underlying27 rfl size_tab' ?_; go_simp; refine hK _ ?_; clear hK K)
        (repeat (first | (refine Go.Flo.fw_calm rfl ?_ (fun K hK => ?_); (first | exact Go.Mix.wanted_none rfl | exact Go.Mix.wanted_tt rfl rfl rfl | exact Go.Mix.wanted_ff rfl rfl rfl); go_big_quiet_op; refine hK _ ?_; clear hK K) | (refine Go.Flo.fw_skip ?_ (fun K hK => ?_); (first | exact Go.Mix.wanted_tf rfl rfl rfl | exact Go.Mix.wanted_ft rfl rfl rfl); go_simp; refine hK _ ?_; clear hK K) | (refine Go.Flo.fw_any rfl ?_ (fun K hK => ?_); (first | exact Go.Mix.wanted_none rfl | exact Go.Mix.wanted_tt rfl rfl rfl | exact Go.Mix.wanted_ff rfl rfl rfl); go_simp; (try (go_ints; try go_simp)); refine hK _ ?_; clear hK K)))
        refine Go.Flo.fw_loud rfl ?_ rfl (by simp) (fun wv hwv hav K hK => ?_) (fun v hv K hK => ?_)
        · (first | exact Go.Mix.wanted_none rfl | exact Go.Mix.wanted_tt rfl rfl rfl | exact Go.Mix.wanted_ff rfl rfl rfl)
        · obtain ⟨iv, rfl⟩ := hwv
          (first | go_big_op | go_simp)
          refine hK _ _ (Go.Flo.owes_row (HW.out iv).size)
        obtain ⟨g6, hg6, rfl⟩ := hv.row
        go_simp
        refine hK _ ?_
        clear hK K hv
        refine Go.Flo.fw_loud rfl ?_ rfl (by simp) (fun wv hwv hav K hK => ?_) (fun v hv K hK => ?_)
        · (first | exact Go.Mix.wanted_none rfl | exact Go.Mix.wanted_tt rfl rfl rfl | exact Go.Mix.wanted_ff rfl rfl rfl)
        · obtain ⟨iv, rfl⟩ := hwv
          have hbv := HW.out iv
          (first | go_big_op | go_simp)
          have hs := Go.Flo.says_row ((hav 47 (by decide +kernel)).2 rfl).1
          go_at_call 15
          refine (TSum2 (l := l.take j) (m := l.drop j) HL1.out HL2.out hs (rd_grow HK4.out hbv) (rd_grow HRR4.out hbv) (Nat.le_refl _) (Nat.le_refl _) (hlb.take _) (hlb.drop _)).mono ?_
          rintro e w' ⟨rfl, hbb⟩
          rw [HTD.out]
          exact hK _ _ (Go.Flo.owes_is _ rfl hbb)
        obtain rfl := hv.is
        go_simp
        refine hK _ ?_
        clear hK K hv
        (repeat (first | (refine Go.Flo.fw_calm rfl ?_ (fun K hK => ?_); (first | exact Go.Mix.wanted_none rfl | exact Go.Mix.wanted_tt rfl rfl rfl | exact Go.Mix.wanted_ff rfl rfl rfl); go_big_quiet_op; refine hK _ ?_; clear hK K) | (refine Go.Flo.fw_skip ?_ (fun K hK => ?_); (first | exact Go.Mix.wanted_tf rfl rfl rfl | exact Go.Mix.wanted_ft rfl rfl rfl); go_simp; refine hK _ ?_; clear hK K) | (refine Go.Flo.fw_any rfl ?_ (fun K hK => ?_); (first | exact Go.Mix.wanted_none rfl | exact Go.Mix.wanted_tt rfl rfl rfl | exact Go.Mix.wanted_ff rfl rfl rfl); go_simp; (try (go_ints; try go_simp)); refine hK _ ?_; clear hK K)))
        (refine Go.Flo.fw_calm rfl ?_ (fun K hK => ?_); (first | exact Go.Mix.wanted_none rfl | exact Go.Mix.wanted_tt rfl rfl rfl | exact Go.Mix.wanted_ff rfl rfl rfl); refine Go.Flo.quiet_load_row 27 _ rfl gt rfl _ _ _ (by rintro _ ⟨i, rfl⟩; exact hT.below (HW.out i) hg4) Try.underlying27 rfl size_tab' ?_; go_simp; refine hK _ ?_; clear hK K)
        refine Go.Flo.fw_loud rfl ?_ rfl (by simp) (fun wv hwv hav K hK => ?_) (fun v hv K hK => ?_)
        · (first | exact Go.Mix.wanted_none rfl | exact Go.Mix.wanted_tt rfl rfl rfl | exact Go.Mix.wanted_ff rfl rfl rfl)
        · obtain ⟨iv, rfl⟩ := hwv
          have hbv := HW.out iv
          (first | go_big_op | go_simp)
          go_at_call 15
          refine (TSum0 _).mono ?_
          rintro e w' ⟨rfl, hbb⟩
          exact hK _ _ (Go.Flo.owes_is _ rfl hbb)
        obtain rfl := hv.is
        go_simp
        refine hK _ ?_
        clear hK K hv
        (repeat (first | (refine Go.Flo.fw_calm rfl ?_ (fun K hK => ?_); (first | exact Go.Mix.wanted_none rfl | exact Go.Mix.wanted_tt rfl rfl rfl | exact Go.Mix.wanted_ff rfl rfl rfl); go_big_quiet_op; refine hK _ ?_; clear hK K) | (refine Go.Flo.fw_skip ?_ (fun K hK => ?_); (first | exact Go.Mix.wanted_tf rfl rfl rfl | exact Go.Mix.wanted_ft rfl rfl rfl); go_simp; refine hK _ ?_; clear hK K) | (refine Go.Flo.fw_any rfl ?_ (fun K hK => ?_); (first | exact Go.Mix.wanted_none rfl | exact Go.Mix.wanted_tt rfl rfl rfl | exact Go.Mix.wanted_ff rfl rfl rfl); go_simp; (try (go_ints; try go_simp)); refine hK _ ?_; clear hK K)))
        refine Go.Flo.fw_nil ?_
        intro w5 hww5 hfw5 huw5
        refine Go.Flo.tw_nil ?_
        obtain ⟨iend, hiend⟩ := hww5
        have hbw5 := HW.out iend
        rw [← hiend] at hbw5
        clear hiend iend huw5
        clear hfw5
        go_wp2
        all_goals
          go_ret
          exact ⟨ret_true05 (by simp), hB4.trans (hbw5.mono hB4.size)⟩
  · go_wp2_with (refine wpList_store_row rfl 27 _ _ rfl w3.heap.size tabV rfl rfl 27 (rowV 0) (heap_alloc_new _ _) size_tab' (by rw [rowV_size, tabV_size]) tabV_one ?_; rw [World.setRow_alloc_new])
    have hT := IsTab.new w3
    obtain ⟨w4, hw4⟩ : ∃ w4, w4 = w3.alloc (.cells tabV 27) := ⟨_, rfl⟩
    have hb4 : Below w3.heap.size w3 w4 := by rw [hw4]; exact (Below.refl _ _).alloc (Nat.le_refl _) _
    obtain ⟨gt, hgt⟩ : ∃ gt, gt = w3.heap.size := ⟨_, rfl⟩
    have hg4 : gt < w4.heap.size := by rw [hw4, hgt]; simp
    have hB4 := hB3.trans (hb4.mono hB3.size)
    have HR4 := Lib.hid (rd_grow HR3.out hb4)
    rw [← hw4, ← hgt] at hT
    rw [← hw4, ← hgt]
    clear hw4 hgt HR3 hb4 hB3 hz
    go_loop [7, 23] (fun v i => ∃ j : Nat, j ≤ k ∧ i = .int .i64 j ∧ v = .int .u16 (Cr.sum (l.take j) : Nat)) (fun _ i => k - (intOf i).toNat)
    case atStart => exact ⟨0, Nat.zero_le _, rfl, rfl⟩
    case round =>
      obtain ⟨j, hj, rfl, rfl⟩ := hrel
      have hlt0 := Cr.sum_lt _ (hlb.take j)
      by_cases hlt : j < k
      · obtain ⟨b, off, ha, _, hc⟩ := HR4.out.at hlt
        unfold bv at hc
        have hx := hlb.at j
        have hs : Cr.sum (l.take (j + 1)) = Cr.step (Cr.sum (l.take j)) (l.getD j 0) := sumFrom_take _ l j (by rw [HLM.out]; exact hlt)
        obtain ⟨x, hx'⟩ : ∃ x, x = l.getD j 0 := ⟨_, rfl⟩
        obtain ⟨s0, hs0⟩ : ∃ s0, s0 = Cr.sum (l.take j) := ⟨_, rfl⟩
        rw [← hx'] at hc hx hs
        rw [← hs0] at hs hlt0 ⊢
        have HS := Lib.hid hs
        clear hs hx' hs0
        subst ha
        go_wp2_with (go_at_call 13; (refine (Step_any s0 x _ hlt0 hx).mono ?_); rintro e w' ⟨rfl, rfl⟩)
        go_round
        case rel => exact ⟨j + 1, by omega, by go_num, by rw [HS.out]⟩
        case measure => simp [intOf]; omega
      · obtain rfl : j = k := by omega
        have ht : l.take j = l := List.take_of_length_le (by rw [HLM.out]; exact Nat.le_refl _)
        rw [ht] at hlt0 ⊢
        have hk4 := (HR4.out.first (k := j) hkm).same (g := bv (l.take j)) (fun i hi => by unfold bv; simp [List.getD, hi])
        have hr4 : Rd w4.heap.size w4 (if c = j then a else Option.map (fun x => x.add j) a) (0) (c - j) (bv (l.drop j)) := by
          have h := (HR4.out.rest (k := j) hkm).same (g := bv (l.drop j)) (fun i hi => by unfold bv; simp [List.getD])
          rw [Nat.sub_self] at h
          exact h
        have hl1 : (l.take j).length = j := by rw [List.length_take, HLM.out]; omega
        have hl2 : (l.drop j).length = 0 := by rw [List.length_drop, HLM.out] <;> omega
        have HK4 := Lib.hid hk4
        have HRR4 := Lib.hid hr4
        have HL1 := Lib.hid hl1
        have HL2 := Lib.hid hl2
        clear hk4 hr4 hl1 hl2
        have htd := take_drop_sum l j
        obtain ⟨s, hs'⟩ : ∃ s, s = Cr.sum l := ⟨_, rfl⟩
        rw [← hs'] at hlt0 htd ⊢
        have HS := Lib.hid hs'
        have HTD := Lib.hid htd
        clear ht hs' htd
        go_wp2_with fail
        go_at_call 14
        refine (rSum_any _ _ _ _ l _ HLM.out HR4.out hlb).mono ?_
        rintro e w' ⟨rfl, rfl⟩
        rw [← HS.out]
        go_wp2
        obtain ⟨I, W, hne, hWI, hIW⟩ := Go.Mix.family (fun v => Below w4.heap.size w4 v) (Below.refl _ _)
        have HJ := Lib.hid hIW
        have HW := Lib.hid hWI
        clear hWI hIW
        refine Go.Flo.wp_region (fun w' => ∃ i, w' = W i) 30 [Go.Flo.Spec.row w4.heap.size 1 #[.slice a j c] 22, Go.Flo.Spec.is (.int .u16 (s : Nat)), Go.Flo.Spec.row w4.heap.size 2 #[.slice a j c, .slice (if c = j then a else Option.map (fun x => x.add j) a) (0) (c - j)] 22, Go.Flo.Spec.is (.int .u16 (s : Nat)), Go.Flo.Spec.is (.int .u16 65535)] (by kernel_rfl) (by kernel_rfl) (by decide) (by rintro _ w' ⟨i, rfl⟩ hb; exact HJ.out _ ((HW.out i).trans (hb.mono (HW.out i).size))) (HJ.out _ (Below.refl _ _).drew) ?_
        simp only [Go.Flo.pair, Go.Mix.calm, List.take, List.drop, if_true, Bool.false_eq_true, if_false, Nat.reduceAdd, Nat.reduceSub]
        (refine Go.Flo.fw_calm rfl ?_ (fun K hK => ?_); (first | exact Go.Mix.wanted_none rfl | exact Go.Mix.wanted_tt rfl rfl rfl | exact Go.Mix.wanted_ff rfl rfl rfl); refine Go.Flo.quiet_load_row 27 _ rfl gt rfl _ _ _ (by rintro _ ⟨i, rfl⟩; exact hT.below (HW.out i) hg4) Try.underlying27 rfl size_tab' ?_; go_simp; refine hK _ ?_; clear hK K)
        (repeat (first | (refine Go.Flo.fw_calm rfl ?_ (fun K hK => ?_); (first | exact Go.Mix.wanted_none rfl | exact Go.Mix.wanted_tt rfl rfl rfl | exact Go.Mix.wanted_ff rfl rfl rfl); go_big_quiet_op; refine hK _ ?_; clear hK K) | (refine Go.Flo.fw_skip ?_ (fun K hK => ?_); (first | exact Go.Mix.wanted_tf rfl rfl rfl | exact Go.Mix.wanted_ft rfl rfl rfl); go_simp; refine hK _ ?_; clear hK K) | (refine Go.Flo.fw_any rfl ?_ (fun K hK => ?_); (first | exact Go.Mix.wanted_none rfl | exact Go.Mix.wanted_tt rfl rfl rfl | exact Go.Mix.wanted_ff rfl rfl rfl); go_simp; (try (go_ints; try go_simp)); refine hK _ ?_; clear hK K)))
        refine Go.Flo.fw_loud rfl ?_ rfl (by simp) (fun wv hwv hav K hK => ?_) (fun v hv K hK => ?_)
        · (first | exact Go.Mix.wanted_none rfl | exact Go.Mix.wanted_tt rfl rfl rfl | exact Go.Mix.wanted_ff rfl rfl rfl)
        · obtain ⟨iv, rfl⟩ := hwv
          (first | go_big_op | go_simp)
          refine hK _ _ (Go.Flo.owes_row (HW.out iv).size)
        obtain ⟨g5, hg5, rfl⟩ := hv.row
        go_simp
        refine hK _ ?_
        clear hK K hv
        refine Go.Flo.fw_loud rfl ?_ rfl (by simp) (fun wv hwv hav K hK => ?_) (fun v hv K hK => ?_)
        · (first | exact Go.Mix.wanted_none rfl | exact Go.Mix.wanted_tt rfl rfl rfl | exact Go.Mix.wanted_ff rfl rfl rfl)
        · obtain ⟨iv, rfl⟩ := hwv
          have hbv := HW.out iv
          (first | go_big_op | go_simp)
          have hs := Go.Flo.says_row ((hav 35 (by decide +kernel)).2 rfl).1
          go_at_call 15
          refine (TSum1 HLM.out hs (rd_grow HR4.out hbv) (Nat.le_refl _) hlb).mono ?_
          rintro e w' ⟨rfl, hbb⟩
          rw [← HS.out]
          exact hK _ _ (Go.Flo.owes_is _ rfl hbb)
        obtain rfl := hv.is
        go_simp
        refine hK _ ?_
        clear hK K hv
        (repeat (first | (refine Go.Flo.fw_calm rfl ?_ (fun K hK => ?_); (first | exact Go.Mix.wanted_none rfl | exact Go.Mix.wanted_tt rfl rfl rfl | exact Go.Mix.wanted_ff rfl rfl rfl); go_big_quiet_op; refine hK _ ?_; clear hK K) | (refine Go.Flo.fw_skip ?_ (fun K hK => ?_); (first | exact Go.Mix.wanted_tf rfl rfl rfl | exact Go.Mix.wanted_ft rfl rfl rfl); go_simp; refine hK _ ?_; clear hK K) | (refine Go.Flo.fw_any rfl ?_ (fun K hK => ?_); (first | exact Go.Mix.wanted_none rfl | exact Go.Mix.wanted_tt rfl rfl rfl | exact Go.Mix.wanted_ff rfl rfl rfl); go_simp; (try (go_ints; try go_simp)); refine hK _ ?_; clear hK K)))
        (refine Go.Flo.fw_calm rfl ?_ (fun K hK => ?_); (first | exact Go.Mix.wanted_none rfl | exact Go.Mix.wanted_tt rfl rfl rfl | exact Go.Mix.wanted_ff rfl rfl rfl); refine Go.Flo.quiet_load_row 27 _ rfl gt rfl _ _ _ (by rintro _ ⟨i, rfl⟩; exact hT.below (HW.out i) hg4) Try.underlying27 rfl size_tab' ?_; go_simp; refine hK _ ?_; clear hK K)
        (repeat (first | (refine Go.Flo.fw_calm rfl ?_ (fun K hK => ?_); (first | exact Go.Mix.wanted_none rfl | exact Go.Mix.wanted_tt rfl rfl rfl | exact Go.Mix.wanted_ff rfl rfl rfl); go_big_quiet_op; refine hK _ ?_; clear hK K) | (refine Go.Flo.fw_skip ?_ (fun K hK => ?_); (first | exact Go.Mix.wanted_tf rfl rfl rfl | exact Go.Mix.wanted_ft rfl rfl rfl); go_simp; refine hK _ ?_; clear hK K) | (refine Go.Flo.fw_any rfl ?_ (fun K hK => ?_); (first | exact Go.Mix.wanted_none rfl | exact Go.Mix.wanted_tt rfl rfl rfl | exact Go.Mix.wanted_ff rfl rfl rfl); go_simp; (try (go_ints; try go_simp)); refine hK _ ?_; clear hK K)))
        refine Go.Flo.fw_loud rfl ?_ rfl (by simp) (fun wv hwv hav K hK => ?_) (fun v hv K hK => ?_)
        · (first | exact Go.Mix.wanted_none rfl | exact Go.Mix.wanted_tt rfl rfl rfl | exact Go.Mix.wanted_ff rfl rfl rfl)
        · obtain ⟨iv, rfl⟩ := hwv
          (first | go_big_op | go_simp)
          refine hK _ _ (Go.Flo.owes_row (HW.out iv).size)
        obtain ⟨g6, hg6, rfl⟩ := hv.row
        go_simp
        refine hK _ ?_
        clear hK K hv
        refine Go.Flo.fw_loud rfl ?_ rfl (by simp) (fun wv hwv hav K hK => ?_) (fun v hv K hK => ?_)
        · (first | exact Go.Mix.wanted_none rfl | exact Go.Mix.wanted_tt rfl rfl rfl | exact Go.Mix.wanted_ff rfl rfl rfl)
        · obtain ⟨iv, rfl⟩ := hwv
          have hbv := HW.out iv
          (first | go_big_op | go_simp)
          have hs := Go.Flo.says_row ((hav 47 (by decide +kernel)).2 rfl).1
          go_at_call 15
          refine (TSum2 (l := l.take j) (m := l.drop j) HL1.out HL2.out hs (rd_grow HK4.out hbv) (rd_grow HRR4.out hbv) (Nat.le_refl _) (Nat.le_refl _) (hlb.take _) (hlb.drop _)).mono ?_
          rintro e w' ⟨rfl, hbb⟩
          rw [HTD.out]
          exact hK _ _ (Go.Flo.owes_is _ rfl hbb)
        obtain rfl := hv.is
        go_simp
        refine hK _ ?_
        clear hK K hv
        (repeat (first | (refine Go.Flo.fw_calm rfl ?_ (fun K hK => ?_); (first | exact Go.Mix.wanted_none rfl | exact Go.Mix.wanted_tt rfl rfl rfl | exact Go.Mix.wanted_ff rfl rfl rfl); go_big_quiet_op; refine hK _ ?_; clear hK K) | (refine Go.Flo.fw_skip ?_ (fun K hK => ?_); (first | exact Go.Mix.wanted_tf rfl rfl rfl | exact Go.Mix.wanted_ft rfl rfl rfl); go_simp; refine hK _ ?_; clear hK K) | (refine Go.Flo.fw_any rfl ?_ (fun K hK => ?_); (first | exact Go.Mix.wanted_none rfl | exact Go.Mix.wanted_tt rfl rfl rfl | exact Go.Mix.wanted_ff rfl rfl rfl); go_simp; (try (go_ints; try go_simp)); refine hK _ ?_; clear hK K)))
        (refine Go.Flo.fw_calm rfl ?_ (fun K hK => ?_); (first | exact Go.Mix.wanted_none rfl | exact Go.Mix.wanted_tt rfl rfl rfl | exact Go.Mix.wanted_ff rfl rfl rfl); refine Go.Flo.quiet_load_row 27 _ rfl gt rfl _ _ _ (by rintro _ ⟨i, rfl⟩; exact hT.below (HW.out i) hg4) Try.underlying27 rfl size_tab' ?_; go_simp; refine hK _ ?_; clear hK K)
        refine Go.Flo.fw_loud rfl ?_ rfl (by simp) (fun wv hwv hav K hK => ?_) (fun v hv K hK => ?_)
        · (first | exact Go.Mix.wanted_none rfl | exact Go.Mix.wanted_tt rfl rfl rfl | exact Go.Mix.wanted_ff rfl rfl rfl)
        · obtain ⟨iv, rfl⟩ := hwv
          have hbv := HW.out iv
          (first | go_big_op | go_simp)
          go_at_call 15
          refine (TSum0 _).mono ?_
          rintro e w' ⟨rfl, hbb⟩
          exact hK _ _ (Go.Flo.owes_is _ rfl hbb)
        obtain rfl := hv.is
        go_simp
        refine hK _ ?_
        clear hK K hv
        (repeat (first | (refine Go.Flo.fw_calm rfl ?_ (fun K hK => ?_); (first | exact Go.Mix.wanted_none rfl | exact Go.Mix.wanted_tt rfl rfl rfl | exact Go.Mix.wanted_ff rfl rfl rfl); go_big_quiet_op; refine hK _ ?_; clear hK K) | (refine Go.Flo.fw_skip ?_ (fun K hK => ?_); (first | exact Go.Mix.wanted_tf rfl rfl rfl | exact Go.Mix.wanted_ft rfl rfl rfl); go_simp; refine hK _ ?_; clear hK K) | (refine Go.Flo.fw_any rfl ?_ (fun K hK => ?_); (first | exact Go.Mix.wanted_none rfl | exact Go.Mix.wanted_tt rfl rfl rfl | exact Go.Mix.wanted_ff rfl rfl rfl); go_simp; (try (go_ints; try go_simp)); refine hK _ ?_; clear hK K)))
        refine Go.Flo.fw_nil ?_
        intro w5 hww5 hfw5 huw5
        refine Go.Flo.tw_nil ?_
        obtain ⟨iend, hiend⟩ := hww5
        have hbw5 := HW.out iend
        rw [← hiend] at hbw5
        clear hiend iend huw5
        clear hfw5
        go_wp2
        all_goals
          go_ret
          exact ⟨ret_true05 (by simp), hB4.trans (hbw5.mono hB4.size)⟩
end Go.Proofs.Ytikhlhdjaladgaa
