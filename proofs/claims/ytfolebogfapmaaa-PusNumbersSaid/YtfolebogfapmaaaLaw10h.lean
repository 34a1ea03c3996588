/- PusShort, walked. -/
import Derived.Test.YtfolebogfapmaaaLaw10
import Derived.Test.YtfolebogfapmaaaSpR
import Derived.Test.YtfolebogfapmaaaPs6
namespace Go.Proofs.Ytfolebogfapmaaa
open Go.RowKit Go.Own
set_option linter.unusedVariables false
set_option linter.unusedSimpArgs false

theorem CmParse.uni {w w' : World} {l : List Nat} {e : Ending} (h : CmParse w l e w') : Below w.heap.size w w' ∧ ∃ (p q r s : Nat) (x : Option Addr) (m c : Nat), e = .returned (.tuple #[.agg #[.int .u8 (p : Nat), .int .u8 (q : Nat), .int .u8 (r : Nat), .int .u16 (s : Nat), .slice x m c], .int .i64 (cmErr l : Nat)]) := by
  obtain ⟨hb, ⟨h0, x, c, rfl, _⟩ | ⟨h0, rfl⟩⟩ := h
  · exact ⟨hb, _, _, _, _, x, _, c, by rw [h0]; rfl⟩
  · exact ⟨hb, 0, 0, 0, 0, none, 0, 0, rfl⟩
theorem RpParse.uni {w w' : World} {l : List Nat} {e : Ending} (h : RpParse w l e w') : Below w.heap.size w w' ∧ ∃ (p q r s : Nat) (x : Option Addr) (m c : Nat), e = .returned (.tuple #[.agg #[.int .u8 (p : Nat), .int .u8 (q : Nat), .int .u16 (r : Nat), .int .u32 (s : Nat), .slice x m c], .int .i64 (rpErr l : Nat)]) := by
  obtain ⟨hb, ⟨h0, x, c, rfl, _⟩ | ⟨h0, rfl⟩⟩ := h
  · exact ⟨hb, _, _, _, _, x, _, c, by rw [h0]; rfl⟩
  · exact ⟨hb, 0, 0, 0, 0, none, 0, 0, rfl⟩
theorem run_minJ {P : Program} (ats : Array TypeId) (ty : TypeId) (k : IntKind) (a b : Int) (w : World) : (Builtin.min_ ats ty #[.int k a, .int k b]).run P w = .ok (.int k (min a b)) w := by
  have e2 : (Builtin.min2 (.int k a) (.int k b)).run P w = .ok (.int k (min a b)) w := by
    unfold Builtin.min2
    by_cases h : b < a
    · have e : min a b = b := by omega
      simp [e, h]
    · have e : min a b = a := by omega
      simp [e, h]
  simp [Builtin.min_, e2]
@[go_sem] theorem make300 (w : World) : (Instr.makeSlice 23 (.int .i64 300) (.int .i64 300)).run Try.prog w = .ok (.slice (some ⟨w.heap.size, 0, none⟩) 300 300) (w.alloc (.cells (bl (List.replicate 300 0)).toArray 5)) := by kernel_rfl
theorem getD_take (Q : List Nat) {n i : Nat} (h : i < n) : (Q.take n).getD i 0 = Q.getD i 0 := by simp [List.getD, List.getElem?_take, h]
def at2' {α : Type} (a b : α) : Nat → α := fun i => if i = 0 then a else b
theorem all2 {p : Nat → Prop} (h0 : p 0) (h1 : p 1) : ∀ i, i < 2 → p i := fun i hi => by
  have : i = 0 ∨ i = 1 := by omega
  rcases this with rfl | rfl
  · exact h0
  · exact h1
set_option maxRecDepth 100000 in
set_option maxHeartbeats 8000000 in
theorem walk_PusShort (n v : Int) (a2 : Option Addr) (len2 cap2 : Nat) (z2 : List Int) (w : World) (wn : (Lit.int .u8 n).wf = true) (wv : (Lit.int .u8 v).wf = true) (w2 : IsRow .u8 w a2 len2 cap2 z2) :
    Calls Try.prog 8 #[.int .u8 n, .int .u8 v, .slice a2 len2 cap2] w fun e w' => e = .returned (.bool true) ∧ Below w.heap.size w w' := by
  have hzc := zero_cm
  have hzr := zero_rpt
  obtain ⟨n0, n1⟩ := bounds_u8 wn
  obtain ⟨v0, v1⟩ := bounds_u8 wv
  obtain ⟨n, rfl⟩ := Int.eq_ofNat_of_zero_le n0
  obtain ⟨v, rfl⟩ := Int.eq_ofNat_of_zero_le v0
  obtain ⟨l, hl, hb, hr⟩ := isRow_rd w2
  have hn : n ≤ 255 := by omega
  have hv : v < 256 := by omega
  obtain ⟨L1, hL1⟩ : ∃ L1, L1 = l.take 300 := ⟨_, rfl⟩
  obtain ⟨m1, hm1⟩ : ∃ m1, m1 = min 300 len2 := ⟨_, rfl⟩
  have hL1l : L1.length = m1 := by rw [hL1, hm1]; exact bytes_take hl
  have hL1b : bytes L1 := by rw [hL1]; exact hb.take 300
  obtain ⟨Z, hZ⟩ : ∃ Z : List Nat, Z = List.replicate 300 0 := ⟨_, rfl⟩
  have hZl : Z.length = 300 := by rw [hZ, List.length_replicate]
  have hZb : bytes Z := by rw [hZ]; intro b h; rw [List.eq_of_mem_replicate h]; decide
  obtain ⟨J, hJ⟩ : ∃ J, J = L1 ++ Z := ⟨_, rfl⟩
  obtain ⟨mj, hmj⟩ : ∃ mj, mj = m1 + 300 := ⟨_, rfl⟩
  have hJl : J.length = mj := by rw [hJ, List.length_append, hL1l, hZl, hmj]
  have hJb : bytes J := by rw [hJ]; exact hL1b.append hZb
  obtain ⟨X, hX⟩ : ∃ X, X = J.take 254 := ⟨_, rfl⟩
  have hXl : X.length = 254 := by rw [hX, List.length_take, hJl]; omega
  have hXb : bytes X := by rw [hX]; exact hJb.take 254
  obtain ⟨Q, hQ⟩ : ∃ Q, Q = [v] ++ X := ⟨_, rfl⟩
  have hQl : Q.length = 255 := by rw [hQ, List.length_append, hXl]; rfl
  have hQb : bytes Q := by
    rw [hQ]
    refine bytes.append ?_ hXb
    intro b h
    rw [List.mem_singleton.1 h]; exact hv
  have hQ0 : Q.getD 0 0 = v := by rw [hQ]; rfl
  have hjf : ([L1, Z] : List (List Nat)).flatten = J := by rw [hJ]; simp
  have HL := Lib.hid hl
  have HR := Lib.hid hr
  have HL1 := Lib.hid hL1
  have HM1 := Lib.hid hm1
  have HL1L := Lib.hid hL1l
  have HZ := Lib.hid hZ
  have HZL := Lib.hid hZl
  have HMJ := Lib.hid hmj
  have HJL := Lib.hid hJl
  have HJF := Lib.hid hjf
  have HX := Lib.hid hX
  have HXL := Lib.hid hXl
  have HQ := Lib.hid hQ
  have HQL := Lib.hid hQl
  have HQ0 := Lib.hid hQ0
  have hmj2 : mj ≤ 600 := by omega
  clear hl hr hL1 hm1 hL1l hZ hZl hJ hmj hJl hjf hX hXl hQ hQl hQ0 w2 wn wv
  go_enter Try.func8, Try.ntmps8
  go_wp2_with (go_at_call 23; refine (awake10 _).mono ?_; rintro e w1 ⟨rfl, hb1⟩)
  have HR1 := Lib.hid ((HR.out.below hb1).mono hb1.size)
  have HB1 := Lib.hid hb1
  clear hb1 HR
  obtain ⟨I, W, hne, hWI, hIW⟩ := Go.Mix.family (fun v => Below w1.heap.size w1 v) (Below.refl _ _)
  have HJ := Lib.hid hIW
  have HW := Lib.hid hWI
  clear hWI hIW
  refine Go.Flo.wp_region (fun w' => ∃ i, w' = W i) 10 [Go.Flo.Spec.row w1.heap.size 1 #[.int .u8 v] 5, SpB L1, SpB Z, SpRows 0 [L1, Z] 23, SpB J, SpB X, SpB Q] (by kernel_rfl) (by kernel_rfl) (by decide) (by rintro _ w' ⟨i, rfl⟩ hb; exact HJ.out _ ((HW.out i).trans (hb.mono (HW.out i).size))) (HJ.out _ (Below.refl _ _).drew) ?_
  simp only [Go.Flo.pair, Go.Mix.calm, List.take, List.drop, if_true, Bool.false_eq_true, if_false, Nat.reduceAdd, Nat.reduceSub]
  (repeat (first | (refine Go.Flo.fw_calm rfl ?_ (fun K hK => ?_); (first | exact Go.Mix.wanted_none rfl | exact Go.Mix.wanted_tt rfl rfl rfl | exact Go.Mix.wanted_ff rfl rfl rfl); go_big_quiet_op; refine hK _ ?_; clear hK K) | (refine Go.Flo.fw_skip ?_ (fun K hK => ?_); (first | exact Go.Mix.wanted_tf rfl rfl rfl | exact Go.Mix.wanted_ft rfl rfl rfl); go_simp; refine hK _ ?_; clear hK K) | (refine Go.Flo.fw_any rfl ?_ (fun K hK => ?_); (first | exact Go.Mix.wanted_none rfl | exact Go.Mix.wanted_tt rfl rfl rfl | exact Go.Mix.wanted_ff rfl rfl rfl); go_simp; (try (go_ints; try go_simp)); refine hK _ ?_; clear hK K)))
  refine Go.Flo.fw_loud rfl ?_ rfl (by simp) (fun wv hwv hav K hK => ?_) (fun v hv K hK => ?_)
  · (first | exact Go.Mix.wanted_none rfl | exact Go.Mix.wanted_tt rfl rfl rfl | exact Go.Mix.wanted_ff rfl rfl rfl)
  · obtain ⟨iv, rfl⟩ := hwv
    (first | go_big_op | go_simp)
    refine hK _ _ (Go.Flo.owes_row (HW.out iv).size)
  obtain ⟨gv, hgv, rfl⟩ := hv.row
  go_simp
  refine hK _ ?_
  clear hK K hv
  (repeat (first | (refine Go.Flo.fw_calm rfl ?_ (fun K hK => ?_); (first | exact Go.Mix.wanted_none rfl | exact Go.Mix.wanted_tt rfl rfl rfl | exact Go.Mix.wanted_ff rfl rfl rfl); go_big_quiet_op; refine hK _ ?_; clear hK K) | (refine Go.Flo.fw_skip ?_ (fun K hK => ?_); (first | exact Go.Mix.wanted_tf rfl rfl rfl | exact Go.Mix.wanted_ft rfl rfl rfl); go_simp; refine hK _ ?_; clear hK K) | (refine Go.Flo.fw_any rfl ?_ (fun K hK => ?_); (first | exact Go.Mix.wanted_none rfl | exact Go.Mix.wanted_tt rfl rfl rfl | exact Go.Mix.wanted_ff rfl rfl rfl); go_simp; (try (go_ints; try go_simp)); refine hK _ ?_; clear hK K)))
  refine Go.Flo.fw_loud rfl ?_ rfl (by simp) (fun wv hwv hav K hK => ?_) (fun v hv K hK => ?_)
  · (first | exact Go.Mix.wanted_none rfl | exact Go.Mix.wanted_tt rfl rfl rfl | exact Go.Mix.wanted_ff rfl rfl rfl)
  · obtain ⟨iv, rfl⟩ := hwv
    have hbv := HW.out iv
    (first | go_big_op | go_simp)
    go_at_call 19
    refine (Cut_any a2 len2 cap2 l 300 _ HL.out ((HR1.out.below hbv).mono hbv.size) (by decide)).mono ?_
    rintro e w' ⟨v, rfl, hown, hbb⟩
    rw [← HL1.out, ← HM1.out] at hown
    exact hK _ _ (owes_B HL1L.out rfl hbb hown)
  obtain ⟨b1, q1, rfl⟩ := ex_B hv
  rw [HL1L.out]
  go_simp
  refine hK _ ?_
  clear hK K hv
  (repeat (first | (refine Go.Flo.fw_calm rfl ?_ (fun K hK => ?_); (first | exact Go.Mix.wanted_none rfl | exact Go.Mix.wanted_tt rfl rfl rfl | exact Go.Mix.wanted_ff rfl rfl rfl); go_big_quiet_op; refine hK _ ?_; clear hK K) | (refine Go.Flo.fw_skip ?_ (fun K hK => ?_); (first | exact Go.Mix.wanted_tf rfl rfl rfl | exact Go.Mix.wanted_ft rfl rfl rfl); go_simp; refine hK _ ?_; clear hK K) | (refine Go.Flo.fw_any rfl ?_ (fun K hK => ?_); (first | exact Go.Mix.wanted_none rfl | exact Go.Mix.wanted_tt rfl rfl rfl | exact Go.Mix.wanted_ff rfl rfl rfl); go_simp; (try (go_ints; try go_simp)); refine hK _ ?_; clear hK K)))
  refine Go.Flo.fw_loud rfl ?_ rfl (by simp) (fun wv hwv hav K hK => ?_) (fun v hv K hK => ?_)
  · (first | exact Go.Mix.wanted_none rfl | exact Go.Mix.wanted_tt rfl rfl rfl | exact Go.Mix.wanted_ff rfl rfl rfl)
  · obtain ⟨iv, rfl⟩ := hwv
    have hbv := HW.out iv
    (first | go_big_op | go_simp)
    exact hK _ _ (owes_lit HZL.out (by decide) (by rw [HZ.out]; rfl))
  obtain ⟨b2, q2, rfl⟩ := ex_B hv
  rw [HZL.out]
  go_simp
  refine hK _ ?_
  clear hK K hv
  (repeat (first | (refine Go.Flo.fw_calm rfl ?_ (fun K hK => ?_); (first | exact Go.Mix.wanted_none rfl | exact Go.Mix.wanted_tt rfl rfl rfl | exact Go.Mix.wanted_ff rfl rfl rfl); go_big_quiet_op; refine hK _ ?_; clear hK K) | (refine Go.Flo.fw_skip ?_ (fun K hK => ?_); (first | exact Go.Mix.wanted_tf rfl rfl rfl | exact Go.Mix.wanted_ft rfl rfl rfl); go_simp; refine hK _ ?_; clear hK K) | (refine Go.Flo.fw_any rfl ?_ (fun K hK => ?_); (first | exact Go.Mix.wanted_none rfl | exact Go.Mix.wanted_tt rfl rfl rfl | exact Go.Mix.wanted_ff rfl rfl rfl); go_simp; (try (go_ints; try go_simp)); refine hK _ ?_; clear hK K)))
  refine Go.Flo.fw_loud rfl ?_ rfl (by simp) (fun wv hwv hav K hK => ?_) (fun v hv K hK => ?_)
  · (first | exact Go.Mix.wanted_none rfl | exact Go.Mix.wanted_tt rfl rfl rfl | exact Go.Mix.wanted_ff rfl rfl rfl)
  · obtain ⟨iv, rfl⟩ := hwv
    have hbv := HW.out iv
    (first | go_big_op | go_simp)
    have f1 := hav 19 (by decide +kernel)
    iterate 1 (replace f1 := f1.1)
    have s1 := says_B (f1.2 rfl).1
    have s2 := says_B ((hav 20 (by decide +kernel)).2 rfl).1
    try rw [← HL1L.out] at s1
    try rw [← HZL.out] at s2
    refine hK _ _ (owes_rows (at2' b1 b2) (at2' q1 q2) (Nat.zero_le _) rfl ?_ (all2 s1 s2))
    simp [rowsC, at2', List.range_succ, HL1L.out, HZL.out]
  obtain ⟨g6, rfl⟩ := ex_rows hv
  go_simp
  refine hK _ ?_
  clear hK K hv
  (repeat (first | (refine Go.Flo.fw_calm rfl ?_ (fun K hK => ?_); (first | exact Go.Mix.wanted_none rfl | exact Go.Mix.wanted_tt rfl rfl rfl | exact Go.Mix.wanted_ff rfl rfl rfl); go_big_quiet_op; refine hK _ ?_; clear hK K) | (refine Go.Flo.fw_skip ?_ (fun K hK => ?_); (first | exact Go.Mix.wanted_tf rfl rfl rfl | exact Go.Mix.wanted_ft rfl rfl rfl); go_simp; refine hK _ ?_; clear hK K) | (refine Go.Flo.fw_any rfl ?_ (fun K hK => ?_); (first | exact Go.Mix.wanted_none rfl | exact Go.Mix.wanted_tt rfl rfl rfl | exact Go.Mix.wanted_ff rfl rfl rfl); go_simp; (try (go_ints; try go_simp)); refine hK _ ?_; clear hK K)))
  refine Go.Flo.fw_loud rfl ?_ rfl (by simp) (fun wv hwv hav K hK => ?_) (fun v hv K hK => ?_)
  · (first | exact Go.Mix.wanted_none rfl | exact Go.Mix.wanted_tt rfl rfl rfl | exact Go.Mix.wanted_ff rfl rfl rfl)
  · obtain ⟨iv, rfl⟩ := hwv
    have hbv := HW.out iv
    (first | go_big_op | go_simp)
    have s4 := ((hav 21 (by decide +kernel)).2 rfl).1
    go_at_call 18
    refine (JoinRows s4 (by simp) (by rw [HJF.out, HJL.out]; omega)).mono ?_
    rintro e w' ⟨v, rfl, hown, hbb⟩
    rw [HJF.out] at hown
    exact hK _ _ (owes_B rfl rfl hbb hown)
  obtain ⟨b3, q3, rfl⟩ := ex_B hv
  rw [HJL.out]
  go_simp
  refine hK _ ?_
  clear hK K hv
  (repeat (first | (refine Go.Flo.fw_calm rfl ?_ (fun K hK => ?_); (first | exact Go.Mix.wanted_none rfl | exact Go.Mix.wanted_tt rfl rfl rfl | exact Go.Mix.wanted_ff rfl rfl rfl); go_big_quiet_op; refine hK _ ?_; clear hK K) | (refine Go.Flo.fw_skip ?_ (fun K hK => ?_); (first | exact Go.Mix.wanted_tf rfl rfl rfl | exact Go.Mix.wanted_ft rfl rfl rfl); go_simp; refine hK _ ?_; clear hK K) | (refine Go.Flo.fw_any rfl ?_ (fun K hK => ?_); (first | exact Go.Mix.wanted_none rfl | exact Go.Mix.wanted_tt rfl rfl rfl | exact Go.Mix.wanted_ff rfl rfl rfl); go_simp; (try (go_ints; try go_simp)); refine hK _ ?_; clear hK K)))
  refine Go.Flo.fw_loud rfl ?_ rfl (by simp) (fun wv hwv hav K hK => ?_) (fun v hv K hK => ?_)
  · (first | exact Go.Mix.wanted_none rfl | exact Go.Mix.wanted_tt rfl rfl rfl | exact Go.Mix.wanted_ff rfl rfl rfl)
  · obtain ⟨iv, rfl⟩ := hwv
    have hbv := HW.out iv
    (first | go_big_op | go_simp)
    have s5 := says_B ((hav 22 (by decide +kernel)).2 rfl).1
    try rw [HJL.out] at s5
    go_at_call 19
    refine (Cut_any b3 mj q3 J 254 _ HJL.out s5 (by decide)).mono ?_
    rintro e w' ⟨v, rfl, hown, hbb⟩
    rw [← HX.out, show min 254 mj = 254 by have := HMJ.out; omega] at hown
    exact hK _ _ (owes_B HXL.out rfl hbb hown)
  obtain ⟨b4, q4, rfl⟩ := ex_B hv
  rw [HXL.out]
  go_simp
  refine hK _ ?_
  clear hK K hv
  (repeat (first | (refine Go.Flo.fw_calm rfl ?_ (fun K hK => ?_); (first | exact Go.Mix.wanted_none rfl | exact Go.Mix.wanted_tt rfl rfl rfl | exact Go.Mix.wanted_ff rfl rfl rfl); go_big_quiet_op; refine hK _ ?_; clear hK K) | (refine Go.Flo.fw_skip ?_ (fun K hK => ?_); (first | exact Go.Mix.wanted_tf rfl rfl rfl | exact Go.Mix.wanted_ft rfl rfl rfl); go_simp; refine hK _ ?_; clear hK K) | (refine Go.Flo.fw_any rfl ?_ (fun K hK => ?_); (first | exact Go.Mix.wanted_none rfl | exact Go.Mix.wanted_tt rfl rfl rfl | exact Go.Mix.wanted_ff rfl rfl rfl); go_simp; (try (go_ints; try go_simp)); refine hK _ ?_; clear hK K)))
  refine Go.Flo.fw_loud rfl ?_ rfl (by simp) (fun wv hwv hav K hK => ?_) (fun v' hv' K hK => ?_)
  · (first | exact Go.Mix.wanted_none rfl | exact Go.Mix.wanted_tt rfl rfl rfl | exact Go.Mix.wanted_ff rfl rfl rfl)
  · obtain ⟨iv, rfl⟩ := hwv
    have hbv := HW.out iv
    have f1 := hav 17 (by decide +kernel)
    iterate 6 (replace f1 := f1.1)
    have hg1 := Go.Flo.says_row (f1.2 rfl).1
    have s5 := says_B ((hav 23 (by decide +kernel)).2 rfl).1
    try rw [HXL.out] at s5
    refine wp_append_full (l := [v]) (.tmp 17) (.tmp 23) rfl rfl rfl rfl HXL.out hg1 s5 (Nat.le_refl _) (by decide) ?_
    intro b9 c9 w9 hr9 hb9
    rw [← HQ.out] at hr9
    exact hK _ _ (owes_Bf HQL.out rfl hb9 hr9)
  obtain ⟨a9, c9, rfl⟩ := ex_B hv'
  rw [HQL.out]
  go_simp
  refine hK _ ?_
  clear hK K hv'
  (repeat (first | (refine Go.Flo.fw_calm rfl ?_ (fun K hK => ?_); (first | exact Go.Mix.wanted_none rfl | exact Go.Mix.wanted_tt rfl rfl rfl | exact Go.Mix.wanted_ff rfl rfl rfl); go_big_quiet_op; refine hK _ ?_; clear hK K) | (refine Go.Flo.fw_skip ?_ (fun K hK => ?_); (first | exact Go.Mix.wanted_tf rfl rfl rfl | exact Go.Mix.wanted_ft rfl rfl rfl); go_simp; refine hK _ ?_; clear hK K) | (refine Go.Flo.fw_any rfl ?_ (fun K hK => ?_); (first | exact Go.Mix.wanted_none rfl | exact Go.Mix.wanted_tt rfl rfl rfl | exact Go.Mix.wanted_ff rfl rfl rfl); go_simp; (try (go_ints; try go_simp)); refine hK _ ?_; clear hK K)))
  refine Go.Flo.fw_nil ?_
  intro w3 hww3 hfw3 huw3
  refine Go.Flo.tw_nil ?_
  obtain ⟨iend, hiend⟩ := hww3
  have hbw3 := HW.out iend
  rw [← hiend] at hbw3
  clear hiend iend huw3
  have hq := says_B ((hfw3 (some 24)).1.2 rfl).1
  try rw [HQL.out] at hq
  clear hfw3 HJ HW hne
  clear W I
  have hB3 := HB1.out.trans (hbw3.mono HB1.out.size)
  have hqle := hq.le
  have hmin := fun (w : World) => run_minJ (P := Try.prog) #[3, 3] 3 .i64 (n : Int) 255 w
  rw [show min (n : Int) 255 = (n : Int) by omega] at hmin
  have hup := fun w => slice8_upto a9 255 c9 n (by omega) w
  have hQn : Rd w3.heap.size w3 a9 n c9 (bv (Q.take n)) := (hq.first hn).same (fun i hi => by unfold bv; simp [List.getD, List.getElem?_take, hi])
  have hQnl : (Q.take n).length = n := by rw [List.length_take, HQL.out]; omega
  have hQnb := hQb.take n
  obtain ⟨b, off, rfl, hbb, hcell⟩ := hq.row (by decide)
  have c5 := hcell 5 (by decide)
  have c6 := hcell 6 (by decide)
  unfold bv at c5 c6
  have e1 : cmErr (Q.take n) = if n < 5 ∨ v / 16 ≠ 2 then 2 else if 200 < n then 4 else 0 := by
    unfold cmErr
    rw [hQnl]
    by_cases h : n < 5
    · rw [if_pos (.inl h), if_pos (.inl h)]
    · have h0 : (Q.take n).getD 0 0 = v := by
        rw [← HQ0.out]; exact getD_take _ (by omega)
      rw [h0]
  have e2 : rpErr (Q.take n) = if n < 11 ∨ v ≠ 32 ∨ Q.getD 5 0 ≠ 0 ∨ Q.getD 6 0 ≠ 0 then 2 else if 200 < n then 4 else 0 := by
    unfold rpErr
    rw [hQnl]
    by_cases h : n < 11
    · rw [if_pos (.inl h), if_pos (.inl h)]
    · have h0 : (Q.take n).getD 0 0 = v := by
        rw [← HQ0.out]; exact getD_take _ (by omega)
      have h5 : (Q.take n).getD 5 0 = Q.getD 5 0 := getD_take _ (by omega)
      have h6 : (Q.take n).getD 6 0 = Q.getD 6 0 := getD_take _ (by omega)
      rw [h0, h5, h6]
  obtain ⟨x5, hx5⟩ : ∃ x5, x5 = Q.getD 5 0 := ⟨_, rfl⟩
  obtain ⟨x6, hx6⟩ : ∃ x6, x6 = Q.getD 6 0 := ⟨_, rfl⟩
  rw [← hx5] at c5 e2
  rw [← hx6] at c6 e2
  obtain ⟨E1, hE1⟩ : ∃ E1, E1 = cmErr (Q.take n) := ⟨_, rfl⟩
  obtain ⟨E2, hE2⟩ : ∃ E2, E2 = rpErr (Q.take n) := ⟨_, rfl⟩
  rw [← hE1] at e1
  rw [← hE2] at e2
  have HE1 := Lib.hid hE1
  have HE2 := Lib.hid hE2
  have HQN := Lib.hid hQn
  have HQNL := Lib.hid hQnl
  have HB3 := Lib.hid hB3
  have E1' := Lib.hid e1
  have E2' := Lib.hid e2
  clear hx5 hx6 hE1 hE2 hq hcell hQn hQnl hbw3 hB3 HR1 e1 e2
  go_wp2_with fail
  go_at_call 27
  refine (cmParse_any (some ⟨b, off, none⟩) n c9 _ (Q.take n) _ HQNL.out (Nat.le_refl _) HQN.out hQnb (by omega)).mono ?_
  intro e w5 hpost
  obtain ⟨hb5, p, q, r, s, x, m, c, rfl⟩ := hpost.uni
  clear hpost
  rw [← HE1.out]
  have hal : Below w5.heap.size w5 (w5.alloc (.cells #[.int .u8 (p : Nat), .int .u8 (q : Nat), .int .u8 (r : Nat), .int .u16 (s : Nat), .slice x m c] 42)) := (Below.refl _ _).alloc (Nat.le_refl _) _
  have hb5' := hb5.trans (hal.mono hb5.size)
  have HQN5 := Lib.hid (rd_grow HQN.out hb5')
  have HB5 := Lib.hid (HB3.out.trans (hb5'.mono HB3.out.size))
  have c5 := (hb5'.cell (p := ⟨b, off + 5, none⟩) hbb).trans c5
  have c6 := (hb5'.cell (p := ⟨b, off + 6, none⟩) hbb).trans c6
  have hbb := Nat.lt_of_lt_of_le hbb hb5'.size
  clear hb5 hb5' hal HQN
  go_wp2_with (refine wpList_store_row rfl 42 _ _ rfl _ _ rfl rfl _ _ (by (first | exact heap_alloc2_new _ _ _ | exact heap_alloc2_old _ _ _ | exact heap_alloc_new _ _ | assumption)) (by exact size_cm) (by rfl) (by simp [Value.oneCell']) ?_; (first | rw [setRow_alloc2_new] | rw [setRow_alloc2_old] | rw [World.setRow_alloc_new] | skip); (try go_simp))
  go_at_call 35
  refine (rpParse_any (some ⟨b, off, none⟩) n c9 _ (Q.take n) _ HQNL.out (Nat.le_refl _) HQN5.out hQnb (by omega)).mono ?_
  intro e w6 hpost
  obtain ⟨hb6, p', q', r', s', x', m', c', rfl⟩ := hpost.uni
  clear hpost
  rw [← HE2.out]
  have hal : Below w6.heap.size w6 (w6.alloc (.cells #[.int .u8 (p' : Nat), .int .u8 (q' : Nat), .int .u16 (r' : Nat), .int .u32 (s' : Nat), .slice x' m' c'] 59)) := (Below.refl _ _).alloc (Nat.le_refl _) _
  have hb6' := hb6.trans (hal.mono hb6.size)
  have HB8 := Lib.hid (HB5.out.trans (hb6'.mono HB5.out.size))
  have c5 := (hb6'.cell (p := ⟨b, off + 5, none⟩) hbb).trans c5
  have c6 := (hb6'.cell (p := ⟨b, off + 6, none⟩) hbb).trans c6
  clear hb6 hb6' hal HQN5 HB5
  obtain ⟨qv, hqv⟩ : ∃ qv, qv = v / 16 := ⟨_, rfl⟩
  have han : Int.tdiv (v : Int) 16 = (qv : Int) := by rw [Int.tdiv_eq_ediv_of_nonneg (by omega)]; omega
  have han2 : (v : Int) / 16 = (qv : Int) := by omega
  have HQV := Lib.hid hqv
  by_cases a1 : n < 5
  · obtain rfl : E1 = 2 := by rw [E1'.out, if_pos (by omega)]
    obtain rfl : E2 = 2 := by rw [E2'.out, if_pos (by omega)]
    clear hqv
    go_wp2
    go_ret
    exact ⟨rfl, HB8.out⟩
  by_cases a2 : qv = 2
  · have q2 : ((qv : Int) != 2) = false := by simp [bne]; omega
    by_cases a3 : 200 < n
    · obtain rfl : E1 = 4 := by rw [E1'.out, if_neg (by omega), if_pos a3]
      by_cases a4 : v = 32
      · have q4 : ((v : Int) != 32) = false := by simp [bne]; omega
        by_cases a5 : x5 = 0
        · have q5 : ((x5 : Int) != 0) = false := by simp [bne]; omega
          by_cases a6 : x6 = 0
          · have q6 : ((x6 : Int) != 0) = false := by simp [bne]; omega
            obtain rfl : E2 = 4 := by rw [E2'.out, if_neg (by omega), if_pos a3]
            clear hqv a2 a4 a5 a6
            go_wp2
            go_ret
            exact ⟨rfl, HB8.out⟩
          · have q6 : ((x6 : Int) != 0) = true := by simp [bne]; omega
            obtain rfl : E2 = 2 := by rw [E2'.out, if_pos (by omega)]
            clear hqv a2 a4 a5 a6
            go_wp2
            go_ret
            exact ⟨rfl, HB8.out⟩
        · have q5 : ((x5 : Int) != 0) = true := by simp [bne]; omega
          obtain rfl : E2 = 2 := by rw [E2'.out, if_pos (by omega)]
          clear hqv a2 a4 a5
          go_wp2
          go_ret
          exact ⟨rfl, HB8.out⟩
      · have q4 : ((v : Int) != 32) = true := by simp [bne]; omega
        obtain rfl : E2 = 2 := by rw [E2'.out, if_pos (by omega)]
        clear hqv a2 a4
        go_wp2
        go_ret
        exact ⟨rfl, HB8.out⟩
    · obtain rfl : E1 = 0 := by rw [E1'.out, if_neg (by omega), if_neg a3]
      by_cases b1 : n < 11
      · obtain rfl : E2 = 2 := by rw [E2'.out, if_pos (by omega)]
        clear hqv a2
        go_wp2
        go_ret
        exact ⟨rfl, HB8.out⟩
      by_cases a4 : v = 32
      · have q4 : ((v : Int) != 32) = false := by simp [bne]; omega
        by_cases a5 : x5 = 0
        · have q5 : ((x5 : Int) != 0) = false := by simp [bne]; omega
          by_cases a6 : x6 = 0
          · have q6 : ((x6 : Int) != 0) = false := by simp [bne]; omega
            obtain rfl : E2 = 0 := by rw [E2'.out, if_neg (by omega), if_neg a3]
            clear hqv a2 a4 a5 a6
            go_wp2
            go_ret
            exact ⟨rfl, HB8.out⟩
          · have q6 : ((x6 : Int) != 0) = true := by simp [bne]; omega
            obtain rfl : E2 = 2 := by rw [E2'.out, if_pos (by omega)]
            clear hqv a2 a4 a5 a6
            go_wp2
            go_ret
            exact ⟨rfl, HB8.out⟩
        · have q5 : ((x5 : Int) != 0) = true := by simp [bne]; omega
          obtain rfl : E2 = 2 := by rw [E2'.out, if_pos (by omega)]
          clear hqv a2 a4 a5
          go_wp2
          go_ret
          exact ⟨rfl, HB8.out⟩
      · have q4 : ((v : Int) != 32) = true := by simp [bne]; omega
        obtain rfl : E2 = 2 := by rw [E2'.out, if_pos (by omega)]
        clear hqv a2 a4
        go_wp2
        go_ret
        exact ⟨rfl, HB8.out⟩
  · have q2 : ((qv : Int) != 2) = true := by simp [bne]; omega
    obtain rfl : E1 = 2 := by rw [E1'.out, if_pos (by omega)]
    obtain rfl : E2 = 2 := by rw [E2'.out, if_pos (by omega)]
    by_cases b1 : n < 11
    · clear hqv a2
      go_wp2
      go_ret
      exact ⟨rfl, HB8.out⟩
    · have q4 : ((v : Int) != 32) = true := by simp [bne]; omega
      clear hqv a2
      go_wp2
      go_ret
      exact ⟨rfl, HB8.out⟩
end Go.Proofs.Ytfolebogfapmaaa
