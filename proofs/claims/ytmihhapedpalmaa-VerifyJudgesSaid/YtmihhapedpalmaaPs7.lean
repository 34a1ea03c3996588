/- Commands and reports: the document's own reading. -/
import Derived.Test.YtmihhapedpalmaaPs5
import Derived.Test.YtmihhapedpalmaaPs6
namespace Go.Proofs.Ytmihhapedpalmaa
open Go.RowKit Go.Own
set_option linter.unusedVariables false
set_option linter.unusedSimpArgs false

theorem zero_rc (w : World) : (zeroValue 72).run Try.prog w = .ok (.agg #[.int .u8 0, .int .u8 0, .int .u8 0, .int .u16 0, .slice none 0 0]) w := by kernel_rfl
theorem size_rc : (Try.prog.info? 72).map (·.size) = some 5 := by kernel_rfl
set_option maxRecDepth 100000 in
set_option maxHeartbeats 4000000 in
theorem rcParse_any (a : Option Addr) (len cap n : Nat) (l : List Nat) (w : World) (hl : l.length = len) (hn : n ≤ w.heap.size) (hr : Rd n w a len cap (bv l)) (hb : bytes l) (hm : len ≤ 1000000) :
    Calls Try.prog 72 #[.slice a len cap] w (CmParse w l) := by
  have hzc := zero_rc
  have h1 := hr.le
  have h2 := hr.top
  unfold maxLen at h2
  have hb0 : Below w.heap.size w (w.alloc (.cells #[.int .u8 0, .int .u8 0, .int .u8 0, .int .u16 0, .slice none 0 0] 72)) := (Below.refl _ _).alloc (Nat.le_refl _) _
  have hC0 := heap_alloc_new w (.cells #[.int .u8 0, .int .u8 0, .int .u8 0, .int .u16 0, .slice none 0 0] 72)
  have HR := Lib.hid hr
  have HL := Lib.hid hl
  have HB0 := Lib.hid hb0
  clear hr hl hb0
  by_cases h5 : len < 5
  · have HE := Lib.hid (show cmErr l = 2 by unfold cmErr; rw [if_pos (.inl (by rw [HL.out]; exact h5))])
    go_enter Try.func72, Try.ntmps72
    go_wp2_with (refine wpList_store_row rfl 72 _ _ rfl _ _ rfl rfl _ _ (by (first | exact heap_alloc2_new _ _ _ | exact heap_alloc2_old _ _ _ | exact heap_alloc_new _ _ | assumption)) (by exact size_rc) (by rfl) (by simp [Value.oneCell']) ?_; (first | rw [setRow_alloc2_new] | rw [setRow_alloc2_old] | rw [World.setRow_alloc_new] | skip); (try go_simp))
    refine bodyPost_ret (results_cell_tmp3 rfl _ _ _ _ _ _ rfl (hC0) Try.underlying72 rfl size_rc) rfl ?_

    exact ⟨by repeat' (first | (with_reducible exact Below.refl _ _) | (with_reducible assumption) | (with_reducible refine Below.setCell ?_ ?_ _) | (with_reducible refine Below.alloc ?_ ?_ _) | (with_reducible refine Below.drew ?_) | (with_reducible refine Below.drawsN ?_ _) | go_size), .inr ⟨by rw [HE.out]; decide, by rw [HE.out]; rfl⟩⟩
  have hx := hb.at 0
  obtain ⟨b, off, rfl, hbn, hc⟩ := HR.out.row (by omega)
  have c0 := hc 0 (by omega)
  unfold bv at c0
  rw [Nat.add_zero] at c0
  obtain ⟨x0, hx0⟩ : ∃ x0, x0 = l.getD 0 0 := ⟨_, rfl⟩
  rw [← hx0] at c0 hx
  have HX0 := Lib.hid hx0
  clear hx0 hc
  have hbs : b < w.heap.size := Nat.lt_of_lt_of_le hbn hn
  have k0 := (HB0.out.cell (p := ⟨b, off, none⟩) hbs).trans c0
  obtain ⟨q, hq⟩ : ∃ q, q = x0 / 16 := ⟨_, rfl⟩
  have han : Int.tdiv (x0 : Int) 16 = (q : Int) := by rw [Int.tdiv_eq_ediv_of_nonneg (by omega)]; omega
  have han2 : (x0 : Int) / 16 = (q : Int) := by omega
  clear c0
  by_cases hx2 : x0 / 16 = 2
  · have hqI : ((q : Int) != 2) = false := by simp [bne]; omega
    clear hq
    by_cases h200 : 200 < len
    · have HE := Lib.hid (show cmErr l = 4 by unfold cmErr; rw [if_neg (by rw [HL.out, ← HX0.out]; omega), if_pos (by rw [HL.out]; exact h200)])
      go_enter Try.func72, Try.ntmps72
      go_wp2_with (refine wpList_store_row rfl 72 _ _ rfl _ _ rfl rfl _ _ (by (first | exact heap_alloc2_new _ _ _ | exact heap_alloc2_old _ _ _ | exact heap_alloc_new _ _ | assumption)) (by exact size_rc) (by rfl) (by simp [Value.oneCell']) ?_; (first | rw [setRow_alloc2_new] | rw [setRow_alloc2_old] | rw [World.setRow_alloc_new] | skip); (try go_simp))
      refine bodyPost_ret (results_cell_tmp3 rfl _ _ _ _ _ _ rfl (hC0) Try.underlying72 rfl size_rc) rfl ?_

      exact ⟨HB0.out, .inr ⟨by rw [HE.out]; decide, by rw [HE.out]; rfl⟩⟩
    · have HE := Lib.hid (show cmErr l = 0 by unfold cmErr; rw [if_neg (by rw [HL.out, ← HX0.out]; omega), if_neg (by rw [HL.out]; exact h200)])
      have hrest := Rd.rest (k := 5) HR.out (by omega)
      have hXX : (if cap = 5 then (some ⟨b, off, none⟩ : Option Addr) else (some ⟨b, off, none⟩ : Option Addr).map (·.add 5)) = (if cap = 5 then (some ⟨b, off, none⟩ : Option Addr) else some ⟨b, off + 5, none⟩) := by simp [Addr.add]
      rw [hXX] at hrest
      obtain ⟨X, hX⟩ : ∃ X, X = (if cap = 5 then (some ⟨b, off, none⟩ : Option Addr) else some ⟨b, off + 5, none⟩) := ⟨_, rfl⟩
      rw [← hX] at hrest
      have hDr : Rd n w X (len - 5) (cap - 5) (bv (l.drop 5)) := hrest.same (fun i hi => by unfold bv; simp [List.getD, List.getElem?_drop])
      obtain ⟨dl, hdl⟩ : ∃ dl, dl = len - 5 := ⟨_, rfl⟩
      obtain ⟨D, hD⟩ : ∃ D, D = l.drop 5 := ⟨_, rfl⟩
      have hDl : D.length = dl := by rw [hD, hdl, List.length_drop, HL.out]
      rw [← hdl, ← hD] at hDr
      have hSeg := rd_seg (k := 3) (m := 2) HR.out (by omega)
      have hvs := at2_seg l 3 (by rw [HL.out]; omega)
      have hsl : ((l.drop 3).take 2).length = 2 := by rw [List.length_take, List.length_drop, HL.out]; omega
      have hsb := (hb.drop 3).take 2
      obtain ⟨S, hS⟩ : ∃ S, S = (l.drop 3).take 2 := ⟨_, rfl⟩
      obtain ⟨v, hv⟩ : ∃ v, v = at2 l 3 := ⟨_, rfl⟩
      have hvlt : v < 65536 := by rw [hv]; exact at2_lt hb 3
      rw [← hS] at hSeg hvs hsl hsb
      rw [← hv] at hvs
      have ha15 : Int.tmod (x0 : Int) 16 = ((x0 % 16 : Nat) : Int) := by rw [Int.tmod_eq_emod_of_nonneg (by omega)]; omega
      have ha16 : (x0 : Int) % 16 = ((x0 % 16 : Nat) : Int) := by omega
      have hc1 := (HB0.out.cell (p := ⟨b, off + 1, none⟩) hbs).trans (rd_cell (k := 1) HR.out (by omega))
      have hc2 := (HB0.out.cell (p := ⟨b, off + 2, none⟩) hbs).trans (rd_cell (k := 2) HR.out (by omega))
      unfold bv at hc1 hc2
      obtain ⟨x1, hx1⟩ : ∃ x1, x1 = l.getD 1 0 := ⟨_, rfl⟩
      obtain ⟨x2, hx2'⟩ : ∃ x2, x2 = l.getD 2 0 := ⟨_, rfl⟩
      rw [← hx1] at hc1
      rw [← hx2'] at hc2
      obtain ⟨r, hr⟩ : ∃ r, r = x0 % 16 := ⟨_, rfl⟩
      rw [← hr] at ha15 ha16
      have HX1 := Lib.hid hx1
      have HX2 := Lib.hid hx2'
      have HRR := Lib.hid hr
      have HD := Lib.hid hD
      have HDL := Lib.hid hdl
      have HDD := Lib.hid hDl
      have HDR := Lib.hid hDr
      have HSEG := Lib.hid hSeg
      have HVS := Lib.hid hvs
      have HSL := Lib.hid hsl
      have HV := Lib.hid hv
      have HX := Lib.hid hX
      clear hXX hX hrest hDr hdl hD hDl hSeg hvs hsl hS hv hx1 hx2' hr
      go_enter Try.func72, Try.ntmps72
      go_wp2_with fail
      have hn0 := Nat.le_trans hn HB0.out.size
      have hgB : w.heap.size ≤ w.heap.size := Nat.le_refl _
      obtain ⟨w0, hw0⟩ : ∃ w0, w0 = w.alloc (.cells #[.int .u8 0, .int .u8 0, .int .u8 0, .int .u16 0, .slice none 0 0] 72) := ⟨_, rfl⟩
      rw [← hw0] at k0 hc1 hc2 hC0 HB0 hn0 ⊢
      have hbs0 : b < w0.heap.size := Nat.lt_of_lt_of_le hbn hn0
      have hgs : w.heap.size < w0.heap.size := (Array.getElem?_eq_some_iff.1 hC0).1
      have hR0 := Lib.hid (HDR.out.below' HB0.out hn)
      have hS0 := Lib.hid (HSEG.out.below' HB0.out hn)
      have HC0 := Lib.hid hC0
      clear hw0 hC0
      obtain ⟨I, W, hne, hWI, hIW⟩ := Go.Mix.family (fun v => Below w0.heap.size w0 v) (Below.refl _ _)
      have HJ := Lib.hid hIW
      have HW := Lib.hid hWI
      clear hWI hIW
      refine Go.Flo.wp_region (fun w' => ∃ i, w' = W i) 18 [Go.Flo.Spec.is (.int .u64 (v : Nat)), SpO w0.heap.size D] (by kernel_rfl) (by kernel_rfl) (by decide) (by rintro _ w' ⟨i, rfl⟩ hb; exact HJ.out _ ((HW.out i).trans (hb.mono (HW.out i).size))) (HJ.out _ (Below.refl _ _).drew) ?_
      simp only [Go.Flo.pair, Go.Mix.calm, List.take, List.drop, if_true, Bool.false_eq_true, if_false, Nat.reduceAdd, Nat.reduceSub]
      have e0 : ∀ i, (W i).cell? ⟨b, off, none⟩ = some (.int .u8 (x0 : Int)) := fun i => ((HW.out i).cell (p := ⟨b, off, none⟩) hbs0).trans k0
      have e1 : ∀ i, (W i).cell? ⟨b, off + 1, none⟩ = some (.int .u8 (x1 : Int)) := fun i => ((HW.out i).cell (p := ⟨b, off + 1, none⟩) hbs0).trans hc1
      have e2 : ∀ i, (W i).cell? ⟨b, off + 2, none⟩ = some (.int .u8 (x2 : Int)) := fun i => ((HW.out i).cell (p := ⟨b, off + 2, none⟩) hbs0).trans hc2
      clear k0 hc1 hc2
      (repeat (first | (refine Go.Flo.fw_calm rfl ?_ (fun K hK => ?_); (first | exact Go.Mix.wanted_none rfl | exact Go.Mix.wanted_tt rfl rfl rfl | exact Go.Mix.wanted_ff rfl rfl rfl); go_big_quiet_op; refine hK _ ?_; clear hK K) | (refine Go.Flo.fw_skip ?_ (fun K hK => ?_); (first | exact Go.Mix.wanted_tf rfl rfl rfl | exact Go.Mix.wanted_ft rfl rfl rfl); go_simp; refine hK _ ?_; clear hK K) | (refine Go.Flo.fw_any rfl ?_ (fun K hK => ?_); (first | exact Go.Mix.wanted_none rfl | exact Go.Mix.wanted_tt rfl rfl rfl | exact Go.Mix.wanted_ff rfl rfl rfl); go_simp; (try (go_ints; try go_simp)); refine hK _ ?_; clear hK K)))
      refine Go.Flo.fw_loud rfl ?_ rfl (by simp) (fun wv hwv hav K hK => ?_) (fun v hv K hK => ?_)
      · (first | exact Go.Mix.wanted_none rfl | exact Go.Mix.wanted_tt rfl rfl rfl | exact Go.Mix.wanted_ff rfl rfl rfl)
      · obtain ⟨iv, rfl⟩ := hwv
        have hbv := HW.out iv
        (first | go_big_op | go_simp)
        go_at_call 34
        refine (Value_any (some ⟨b, off + 3, none⟩) 2 (cap - 3) n S _ HSL.out (hS0.out.below' hbv hn0) hsb (by decide)).mono ?_
        rintro e w' ⟨rfl, rfl⟩
        rw [HVS.out]
        exact hK _ _ (Go.Flo.owes_is _ rfl (Below.refl _ _))
      obtain rfl := hv.is
      go_simp
      refine hK _ ?_
      clear hK K hv
      (repeat (first | (refine Go.Flo.fw_calm rfl ?_ (fun K hK => ?_); (first | exact Go.Mix.wanted_none rfl | exact Go.Mix.wanted_tt rfl rfl rfl | exact Go.Mix.wanted_ff rfl rfl rfl); go_big_quiet_op; refine hK _ ?_; clear hK K) | (refine Go.Flo.fw_skip ?_ (fun K hK => ?_); (first | exact Go.Mix.wanted_tf rfl rfl rfl | exact Go.Mix.wanted_ft rfl rfl rfl); go_simp; refine hK _ ?_; clear hK K) | (refine Go.Flo.fw_any rfl ?_ (fun K hK => ?_); (first | exact Go.Mix.wanted_none rfl | exact Go.Mix.wanted_tt rfl rfl rfl | exact Go.Mix.wanted_ff rfl rfl rfl); go_simp; (try (go_ints; try go_simp)); refine hK _ ?_; clear hK K)))
      refine Go.Flo.fw_loud rfl ?_ rfl (by simp) (fun wv hwv hav K hK => ?_) (fun v hv K hK => ?_)
      · (first | exact Go.Mix.wanted_none rfl | exact Go.Mix.wanted_tt rfl rfl rfl | exact Go.Mix.wanted_ff rfl rfl rfl)
      · obtain ⟨iv, rfl⟩ := hwv
        have hbv := HW.out iv
        (first | go_big_op | go_simp)
        have hcl : Calls Try.prog 26 #[.slice (if cap = 5 then (some ⟨b, off, none⟩ : Option Addr) else some ⟨b, off + 5, none⟩) (len - 5) (cap - 5), .int .i64 200] (W iv) (fun e w' => ∃ v, e = .returned v ∧ w'.ownsRow (W iv).heap.size 5 1 v dl (bl D) ∧ Below (W iv).heap.size (W iv) w') := by
          rw [← HX.out, ← HDL.out]
          have h := Cut_z 200 X dl (cap - 5) D 200 (W iv) rfl HDD.out ((hR0.out.below' hbv hn0).mono (Nat.le_trans hn0 hbv.size)) (by decide)
          rw [show min 200 dl = dl by have := HDL.out; omega, List.take_of_length_le (by rw [HDD.out]; have := HDL.out; omega)] at h
          exact h
        go_at_call 26
        refine hcl.mono ?_
        rintro e w' ⟨v, rfl, hown, hbb⟩
        exact hK _ _ (owes_O HDD.out rfl hbb hown hbv.size)
      obtain ⟨a9, c9, rfl⟩ := ex_O hv
      rw [HDD.out]
      go_simp
      refine hK _ ?_
      clear hK K hv
      (repeat (first | (refine Go.Flo.fw_calm rfl ?_ (fun K hK => ?_); (first | exact Go.Mix.wanted_none rfl | exact Go.Mix.wanted_tt rfl rfl rfl | exact Go.Mix.wanted_ff rfl rfl rfl); go_big_quiet_op; refine hK _ ?_; clear hK K) | (refine Go.Flo.fw_skip ?_ (fun K hK => ?_); (first | exact Go.Mix.wanted_tf rfl rfl rfl | exact Go.Mix.wanted_ft rfl rfl rfl); go_simp; refine hK _ ?_; clear hK K) | (refine Go.Flo.fw_any rfl ?_ (fun K hK => ?_); (first | exact Go.Mix.wanted_none rfl | exact Go.Mix.wanted_tt rfl rfl rfl | exact Go.Mix.wanted_ff rfl rfl rfl); go_simp; (try (go_ints; try go_simp)); refine hK _ ?_; clear hK K)))
      refine Go.Flo.fw_nil ?_
      intro w4 hww4 hfw4 huw4
      obtain ⟨iend, hiend⟩ := hww4
      have hbw4 := HW.out iend
      rw [← hiend] at hbw4
      clear hiend iend huw4
      have hsays : w4.ownsRow w0.heap.size 5 1 (.slice a9 D.length c9) D.length (bl D) := ((hfw4 (some 35)).1.2 rfl).1
      have hC4 := (hbw4.block w.heap.size hgs).trans HC0.out
      clear hfw4 HJ HW hne e0 e1 e2
      clear W I
      rw [HDD.out] at hsays
      refine Go.Flo.tw_step ?_ (fun K hK => ?_)
      · (first | exact Go.Mix.wanted_none rfl | exact Go.Mix.wanted_tt rfl rfl rfl | exact Go.Mix.wanted_ff rfl rfl rfl)
      refine wp_store_row 72 (.tmp 2) (.tmp 36) rfl w.heap.size _ rfl rfl 72 _ hC4 size_rc rfl (by simp [Value.oneCell']) (hK _ _ ?_)
      clear hK K
      refine Go.Flo.tw_step ?_ (fun K hK => ?_)
      · (first | exact Go.Mix.wanted_none rfl | exact Go.Mix.wanted_tt rfl rfl rfl | exact Go.Mix.wanted_ff rfl rfl rfl)
      (first | go_big_op | go_simp)
      refine hK _ _ ?_
      clear hK K
      refine Go.Flo.tw_nil ?_
      have hB4 := below_setRow (HB0.out.trans (hbw4.mono HB0.out.size)) (Nat.le_refl _) #[.int .u8 (r : Nat), .int .u8 (x1 : Nat), .int .u8 (x2 : Nat), .int .u16 (v : Nat), .slice a9 dl c9]
      go_wp2
      all_goals
        refine bodyPost_ret (results_cell_tmp3 rfl _ _ _ _ _ _ rfl (setRow_heap _ _ _ _ _ _ hC4) Try.underlying72 rfl size_rc) rfl ?_

        have hown := hsays.kept (grown_setRow w4 w.heap.size #[.int .u8 (r : Nat), .int .u8 (x1 : Nat), .int .u8 (x2 : Nat), .int .u16 (v : Nat), .slice a9 dl c9]) (.inr (fun e => by have := (hsays.lt w.heap.size e).1; omega))
        have hrd := rd_of_own (f := bv D) hown (fun i hi => bl_at D (by rw [HDD.out]; exact hi))
        refine ⟨hB4, .inl ⟨HE.out, a9, c9, ?_, ?_⟩⟩
        · rw [HL.out, ← HDL.out, ← HX0.out, ← HRR.out, ← HX1.out, ← HX2.out, ← HV.out]; rfl
        · rw [HL.out, ← HDL.out, ← HD.out]; exact hrd
  · have HE := Lib.hid (show cmErr l = 2 by unfold cmErr; rw [if_pos (.inr (by rw [← HX0.out]; exact hx2))])
    have hqI : ((q : Int) != 2) = true := by simp [bne]; omega
    clear hq
    go_enter Try.func72, Try.ntmps72
    go_wp2_with (refine wpList_store_row rfl 72 _ _ rfl _ _ rfl rfl _ _ (by (first | exact heap_alloc2_new _ _ _ | exact heap_alloc2_old _ _ _ | exact heap_alloc_new _ _ | assumption)) (by exact size_rc) (by rfl) (by simp [Value.oneCell']) ?_; (first | rw [setRow_alloc2_new] | rw [setRow_alloc2_old] | rw [World.setRow_alloc_new] | skip); (try go_simp))
    refine bodyPost_ret (results_cell_tmp3 rfl _ _ _ _ _ _ rfl (hC0) Try.underlying72 rfl size_rc) rfl ?_

    exact ⟨HB0.out, .inr ⟨by rw [HE.out]; decide, by rw [HE.out]; rfl⟩⟩
end Go.Proofs.Ytmihhapedpalmaa
