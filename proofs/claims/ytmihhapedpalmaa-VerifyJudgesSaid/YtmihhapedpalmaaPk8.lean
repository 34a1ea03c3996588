/- Space packets: the document's own reading. -/
import Derived.Test.YtmihhapedpalmaaPk7
namespace Go.Proofs.Ytmihhapedpalmaa
open Go.RowKit Go.Own
set_option linter.unusedVariables false
set_option linter.unusedSimpArgs false

theorem rd_seg {n len cap b off k m : Nat} {l : List Nat} {w : World} (h : Rd n w (some ⟨b, off, none⟩) len cap (bv l)) (hk : k + m ≤ len) : Rd n w (some ⟨b, off + k, none⟩) m (cap - k) (bv ((l.drop k).take m)) := by
  have h1 := h.le
  have h2 := h.top
  refine ⟨by omega, by omega, fun h => (by cases h), fun h0 => ?_⟩
  obtain ⟨b', off', e, hb, hc⟩ := h.row (by omega)
  simp at e
  obtain ⟨rfl, rfl⟩ := e
  refine ⟨b, off + k, rfl, hb, fun i hi => ?_⟩
  rw [Nat.add_assoc, hc (k + i) (by omega)]
  unfold bv
  simp [List.getD, List.getElem?_drop, List.getElem?_take, hi]
theorem val_seg (l : List Nat) (k : Nat) (h : k + 2 ≤ l.length) : val ((l.drop k).take 2) = l.getD k 0 * 256 + l.getD (k + 1) 0 := by
  rw [seg_two l k h]
  simp [val]
  omega
theorem Cut_z (z : Int) (a : Option Addr) (len cap : Nat) (l : List Nat) (n : Nat) (w : World) (hz : z = (n : Int)) (hl : l.length = len) (hr : Rd w.heap.size w a len cap (bv l)) (hn : n ≤ 1000) :
    Calls Try.prog 26 #[.slice a len cap, .int .i64 z] w fun e w' => ∃ v, e = .returned v ∧ w'.ownsRow w.heap.size 5 1 v (min n len) (bl (l.take n)) ∧ Below w.heap.size w w' := by
  subst hz
  exact Cut_any a len cap l n w hl hr hn
set_option maxRecDepth 100000 in
set_option maxHeartbeats 4000000 in
theorem rParse09 (a : Option Addr) (len cap n : Nat) (l : List Nat) (w : World) (hl : l.length = len) (hn : n ≤ w.heap.size) (hr : Rd n w a len cap (bv l)) (hb : bytes l) (hm : len ≤ 1000000) :
    Calls Try.prog 71 #[.slice a len cap] w (PkParse w l) := by
  have hzc := zero_rp
  have h1 := hr.le
  have h2 := hr.top
  unfold maxLen at h2
  have hb0 : Below w.heap.size w (w.alloc (.cells #[.bool false, .int .u16 0, .int .u16 0, .slice none 0 0] 129)) := (Below.refl _ _).alloc (Nat.le_refl _) _
  have hC0 := heap_alloc_new w (.cells #[.bool false, .int .u16 0, .int .u16 0, .slice none 0 0] 129)
  have hR0 := hr.below' hb0 hn
  obtain ⟨w0, hw0⟩ : ∃ w0, w0 = w.alloc (.cells #[.bool false, .int .u16 0, .int .u16 0, .slice none 0 0] 129) := ⟨_, rfl⟩
  obtain ⟨g, hg⟩ : ∃ g, g = w.heap.size := ⟨_, rfl⟩
  rw [← hw0] at hb0 hC0 hR0
  rw [← hg] at hC0
  have HR := Lib.hid hr
  have HL := Lib.hid hl
  have HW0 := Lib.hid hw0
  have HG := Lib.hid hg
  have HB0 := Lib.hid hb0
  have HR0 := Lib.hid hR0
  have hgB : w.heap.size ≤ g := Nat.le_of_eq hg.symm
  have hn0 := Nat.le_trans hn hb0.size
  clear hr hl hw0 hg hb0 hR0
  by_cases h9 : len < 9
  · have HE := Lib.hid (show pkErr l = 2 by unfold pkErr; rw [if_pos (.inl (by rw [HL.out]; exact h9))])
    go_enter Try.func71, Try.ntmps71
    go_wp2_with fail
    rw [← HG.out, ← HW0.out]
    skip
    refine bodyPost_ret (results_cell_tmp3 rfl _ _ _ _ _ _ rfl (hC0) Try.underlying129 rfl size_rp) rfl ?_
    exact ⟨HB0.out, .inr ⟨by rw [HE.out]; decide, by rw [HE.out]; rfl⟩⟩
  obtain ⟨b, off, rfl, hbn, _⟩ := HR.out.row (by omega)
  have hp4 := hb.at 4
  have hp5 := hb.at 5
  have x0 := hb.at 0
  have x1 := hb.at 1
  have x2 := hb.at 2
  have x3 := hb.at 3
  have hz : val ((l.drop 4).take 2) = l.getD 4 0 * 256 + l.getD 5 0 := val_seg l 4 (by rw [HL.out]; omega)
  have hz2 : val ((l.drop 4).take 2) < 65536 := by rw [hz]; omega
  have hps : psize l = val ((l.drop 4).take 2) := by rw [hz]; rfl
  have hA : val ((l.drop 0).take 2) = l.getD 0 0 * 256 + l.getD 1 0 := val_seg l 0 (by rw [HL.out]; omega)
  have hC : val ((l.drop 2).take 2) = l.getD 2 0 * 256 + l.getD 3 0 := val_seg l 2 (by rw [HL.out]; omega)
  have hfx : pkFix l = true ↔ (val ((l.drop 0).take 2) < 8192 ∧ val ((l.drop 0).take 2) / 2048 % 2 = 1 ∧ 49152 ≤ val ((l.drop 2).take 2)) := by
    unfold pkFix
    rw [decide_eq_true_eq, hA, hC]
    omega
  have hkk : pkK l = decide (4096 ≤ val ((l.drop 0).take 2)) := by
    unfold pkK
    rw [hA, decide_eq_decide]
    omega
  have hka : pkA l = val ((l.drop 0).take 2) % 2048 := by unfold pkA; rw [hA]
  have hkc : pkC l = val ((l.drop 2).take 2) % 16384 := by unfold pkC; rw [hC]
  have hA2 : val ((l.drop 0).take 2) < 65536 := by rw [hA]; omega
  have hC2 : val ((l.drop 2).take 2) < 65536 := by rw [hC]; omega
  obtain ⟨z, hz'⟩ : ∃ z, z = val ((l.drop 4).take 2) := ⟨_, rfl⟩
  obtain ⟨A, hA'⟩ : ∃ A, A = val ((l.drop 0).take 2) := ⟨_, rfl⟩
  obtain ⟨C, hC'⟩ : ∃ C, C = val ((l.drop 2).take 2) := ⟨_, rfl⟩
  rw [← hz'] at hz2 hps
  rw [← hA'] at hfx hkk hka hA2
  rw [← hC'] at hfx hkc hC2
  have HZ := Lib.hid hz'
  have HPS := Lib.hid hps
  have HA := Lib.hid hA'
  have HC := Lib.hid hC'
  have HFX := Lib.hid hfx
  have HKK := Lib.hid hkk
  have HKA := Lib.hid hka
  have HKC := Lib.hid hkc
  have hs0 : ((l.drop 0).take 2).length = 2 := by rw [List.length_take, List.length_drop, HL.out]; omega
  have hs2 : ((l.drop 2).take 2).length = 2 := by rw [List.length_take, List.length_drop, HL.out]; omega
  have hs4 : ((l.drop 4).take 2).length = 2 := by rw [List.length_take, List.length_drop, HL.out]; omega
  have S0L := Lib.hid hs0
  have S2L := Lib.hid hs2
  have S4L := Lib.hid hs4
  have HS0 := Lib.hid (show Rd n w0 (some ⟨b, off, none⟩) 2 cap (bv ((l.drop 0).take 2)) from rd_seg (k := 0) (m := 2) HR0.out (by omega))
  have HS2 := Lib.hid (rd_seg (k := 2) (m := 2) HR0.out (by omega))
  have HS4 := Lib.hid (rd_seg (k := 4) (m := 2) HR0.out (by omega))
  have hb0' := (hb.drop 0).take 2
  have hb2 := (hb.drop 2).take 2
  have hb4 := (hb.drop 4).take 2
  have HC0 := Lib.hid hC0
  have hgl : g < w0.heap.size := (Array.getElem?_eq_some_iff.1 hC0).1
  clear hz hps hA hC hz' hA' hC' hfx hkk hka hkc hp4 hp5 x0 x1 x2 x3 hs0 hs2 hs4
  by_cases hs : len = z + 7
  · have HSZ := Lib.hid hs
    have hsI : ((z : Int) + 7 != (len : Int)) = false := by simp [bne]; omega
    cases hRB : rightB l
    · have HRB := Lib.hid hRB
      have HE := Lib.hid (show pkErr l = 5 by unfold pkErr; rw [if_neg (by rw [HL.out, HPS.out]; omega), hRB]; rfl)
      clear hRB hs
      go_enter Try.func71, Try.ntmps71
      skip
      go_wp2_with fail
      rw [← HG.out, ← HW0.out]
      go_at_call 34
      refine (Value_any (some ⟨b, off + 4, none⟩) 2 (cap - 4) n ((l.drop 4).take 2) _ S4L.out HS4.out hb4 (by omega)).mono ?_
      rintro e w1 ⟨rfl, rfl⟩
      rw [← HZ.out]
      skip
      go_wp2_with fail
      go_at_call 89
      refine (rRight_any _ _ _ n l _ HL.out hn0 HR0.out hb).mono ?_
      rintro e w3 ⟨rfl, hb3⟩
      rw [HRB.out]
      have hs3 : w0.heap.size ≤ w3.heap.size := hb3.size
      have hC3 := (hb3.block g hgl).trans HC0.out
      have HC3 := Lib.hid hC3
      have HB3 := Lib.hid (HB0.out.trans (hb3.mono HB0.out.size))
      have HR3 := Lib.hid (HR0.out.below' hb3 hn0)
      have HS03 := Lib.hid (HS0.out.below' hb3 hn0)
      have HS23 := Lib.hid (HS2.out.below' hb3 hn0)
      clear hb3
      go_wp2_with (refine wpList_store_row rfl 129 _ _ rfl _ _ rfl rfl _ _ (by exact hC3) (by exact size_rp) (by rfl) (by simp [Value.oneCell']) ?_; (try go_simp))
      skip
      refine bodyPost_ret (results_cell_tmp3 rfl _ _ _ _ _ _ rfl (setRow_heap _ _ _ _ _ _ hC3) Try.underlying129 rfl size_rp) rfl ?_
      exact ⟨below_setRow HB3.out hgB _, .inr ⟨by rw [HE.out]; decide, by rw [HE.out]; rfl⟩⟩
    · have HRB := Lib.hid hRB
      obtain ⟨A1, hA1⟩ : ∃ A1, A1 = A / 2048 := ⟨_, rfl⟩
      obtain ⟨A3, hA3⟩ : ∃ A3, A3 = A / 2048 % 2 := ⟨_, rfl⟩
      have hdv : (A : Int) / 2048 = (A1 : Int) := by omega
      have hdm : Int.tmod (A1 : Int) 2 = (A3 : Int) := by rw [Int.tmod_eq_emod_of_nonneg (by omega)]; omega
      have hA1l : A1 < 32 := by omega
      have hA3l : A3 < 2 := by omega
      have HA3 := Lib.hid hA3
      have HSS := Lib.hid hs
      clear hA1 hA3 hRB hs
      go_enter Try.func71, Try.ntmps71
      skip
      go_wp2_with fail
      rw [← HG.out, ← HW0.out]
      go_at_call 34
      refine (Value_any (some ⟨b, off + 4, none⟩) 2 (cap - 4) n ((l.drop 4).take 2) _ S4L.out HS4.out hb4 (by omega)).mono ?_
      rintro e w1 ⟨rfl, rfl⟩
      rw [← HZ.out]
      skip
      go_wp2_with fail
      go_at_call 89
      refine (rRight_any _ _ _ n l _ HL.out hn0 HR0.out hb).mono ?_
      rintro e w3 ⟨rfl, hb3⟩
      rw [HRB.out]
      have hs3 : w0.heap.size ≤ w3.heap.size := hb3.size
      have hC3 := (hb3.block g hgl).trans HC0.out
      have HC3 := Lib.hid hC3
      have HB3 := Lib.hid (HB0.out.trans (hb3.mono HB0.out.size))
      have HR3 := Lib.hid (HR0.out.below' hb3 hn0)
      have HS03 := Lib.hid (HS0.out.below' hb3 hn0)
      have HS23 := Lib.hid (HS2.out.below' hb3 hn0)
      clear hb3
      skip
      go_wp2_with fail
      obtain ⟨I, W, hne, hWI, hIW⟩ := Go.Mix.family (fun v => Below w3.heap.size w3 v) (Below.refl _ _)
      have HJ := Lib.hid hIW
      have HW := Lib.hid hWI
      clear hWI hIW
      refine Go.Flo.wp_region (fun w' => ∃ i, w' = W i) 8 [Go.Flo.Spec.is (.int .u64 (A : Nat)), Go.Flo.Spec.is (.int .u64 (C : Nat))] (by kernel_rfl) (by kernel_rfl) (by decide) (by rintro _ w' ⟨i, rfl⟩ hb; exact HJ.out _ ((HW.out i).trans (hb.mono (HW.out i).size))) (HJ.out _ (Below.refl _ _).drew) ?_
      simp only [Go.Flo.pair, Go.Mix.calm, List.take, List.drop, if_true, Bool.false_eq_true, if_false, Nat.reduceAdd, Nat.reduceSub]
      (repeat (first | (refine Go.Flo.fw_calm rfl ?_ (fun K hK => ?_); (first | exact Go.Mix.wanted_none rfl | exact Go.Mix.wanted_tt rfl rfl rfl | exact Go.Mix.wanted_ff rfl rfl rfl); go_big_quiet_op; refine hK _ ?_; clear hK K) | (refine Go.Flo.fw_skip ?_ (fun K hK => ?_); (first | exact Go.Mix.wanted_tf rfl rfl rfl | exact Go.Mix.wanted_ft rfl rfl rfl); go_simp; refine hK _ ?_; clear hK K) | (refine Go.Flo.fw_any rfl ?_ (fun K hK => ?_); (first | exact Go.Mix.wanted_none rfl | exact Go.Mix.wanted_tt rfl rfl rfl | exact Go.Mix.wanted_ff rfl rfl rfl); go_simp; (try (go_ints; try go_simp)); refine hK _ ?_; clear hK K)))
      refine Go.Flo.fw_loud rfl ?_ rfl (by simp) (fun wv hwv hav K hK => ?_) (fun v hv K hK => ?_)
      · (first | exact Go.Mix.wanted_none rfl | exact Go.Mix.wanted_tt rfl rfl rfl | exact Go.Mix.wanted_ff rfl rfl rfl)
      · obtain ⟨iv, rfl⟩ := hwv
        have hbv := HW.out iv
        (first | go_big_op | go_simp)
        go_at_call 34
        refine (Value_any (some ⟨b, off, none⟩) 2 cap n ((l.drop 0).take 2) _ S0L.out (HS03.out.below' hbv (Nat.le_trans hn0 hs3)) hb0' (by omega)).mono ?_
        rintro e w' ⟨rfl, rfl⟩
        rw [← HA.out]
        exact hK _ _ (Go.Flo.owes_is _ rfl (Below.refl _ _))
      obtain rfl := hv.is
      go_simp
      refine hK _ ?_
      clear hK K hv
      (repeat (first | (refine Go.Flo.fw_calm rfl ?_ (fun K hK => ?_); (first | exact Go.Mix.wanted_none rfl | exact Go.Mix.wanted_tt rfl rfl rfl | exact Go.Mix.wanted_ff rfl rfl rfl); go_big_quiet_op; refine hK _ ?_; clear hK K) | (refine Go.Flo.fw_skip ?_ (fun K hK => ?_); (first | exact Go.Mix.wanted_tf rfl rfl rfl | exact Go.Mix.wanted_ft rfl rfl rfl); go_simp; refine hK _ ?_; clear hK K) | (refine Go.Flo.fw_any rfl ?_ (fun K hK => ?_); (first | exact Go.Mix.wanted_none rfl | exact Go.Mix.wanted_tt rfl rfl rfl | exact Go.Mix.wanted_ff rfl rfl rfl); go_simp; (try (go_ints; try go_simp)); refine hK _ ?_; clear hK K)))
      refine Go.Flo.fw_loud rfl ?_ rfl (by simp) (fun wv hwv hav K hK => ?_) (fun v hv K hK => ?_)
      · (first | exact Go.Mix.wanted_none rfl | exact Go.Mix.wanted_tt rfl rfl rfl | exact Go.Mix.wanted_ff rfl rfl rfl)
      · obtain ⟨iv, rfl⟩ := hwv
        have hbv := HW.out iv
        (first | go_big_op | go_simp)
        go_at_call 34
        refine (Value_any (some ⟨b, off + 2, none⟩) 2 (cap - 2) n ((l.drop 2).take 2) _ S2L.out (HS23.out.below' hbv (Nat.le_trans hn0 hs3)) hb2 (by omega)).mono ?_
        rintro e w' ⟨rfl, rfl⟩
        rw [← HC.out]
        exact hK _ _ (Go.Flo.owes_is _ rfl (Below.refl _ _))
      obtain rfl := hv.is
      go_simp
      refine hK _ ?_
      clear hK K hv
      (repeat (first | (refine Go.Flo.fw_calm rfl ?_ (fun K hK => ?_); (first | exact Go.Mix.wanted_none rfl | exact Go.Mix.wanted_tt rfl rfl rfl | exact Go.Mix.wanted_ff rfl rfl rfl); go_big_quiet_op; refine hK _ ?_; clear hK K) | (refine Go.Flo.fw_skip ?_ (fun K hK => ?_); (first | exact Go.Mix.wanted_tf rfl rfl rfl | exact Go.Mix.wanted_ft rfl rfl rfl); go_simp; refine hK _ ?_; clear hK K) | (refine Go.Flo.fw_any rfl ?_ (fun K hK => ?_); (first | exact Go.Mix.wanted_none rfl | exact Go.Mix.wanted_tt rfl rfl rfl | exact Go.Mix.wanted_ff rfl rfl rfl); go_simp; (try (go_ints; try go_simp)); refine hK _ ?_; clear hK K)))
      refine Go.Flo.fw_nil ?_
      intro w4 hww4 hfw4 huw4
      refine Go.Flo.tw_nil ?_
      obtain ⟨iend, hiend⟩ := hww4
      have hbw4 := HW.out iend
      rw [← hiend] at hbw4
      clear hiend iend huw4
      clear hfw4 HJ HW hne
      clear W I
      have hC4 := (hbw4.block g (Nat.lt_of_lt_of_le hgl hs3)).trans HC3.out
      have HC4 := Lib.hid hC4
      have HB4 := Lib.hid (HB3.out.trans (hbw4.mono HB3.out.size))
      have HR4 := Lib.hid (HR3.out.below' hbw4 (Nat.le_trans hn0 hs3))
      have hs4 : w0.heap.size ≤ w4.heap.size := Nat.le_trans hs3 hbw4.size
      clear hbw4
      have ZZ := Lib.hid (And.intro hn (And.intro hn0 (And.intro hgB (And.intro hgl (And.intro hs4 (And.intro hbn (And.intro hm h9)))))))
      clear hn hn0 hgB hgl hs3 hs4 hbn hm hzc hC3 hC0 hz2 hsI
      by_cases q1 : A < 8192
      · by_cases q2 : A3 = 1
        · by_cases q3 : C < 49152
          · have qI : ((A3 : Int) != 1) = false := by simp [bne]; omega
            have I1 : (8192 ≤ (A : Int)) = False := eq_false (by omega)
            have I3 : ((C : Int) < 49152) = True := eq_true (by omega)
            have Q3 := Lib.hid q3
            clear q2 q1 q3 hA2 hC2
            go_wp2_with (refine wpList_store_row rfl 129 _ _ rfl _ _ rfl rfl _ _ (by exact hC4) (by exact size_rp) (by rfl) (by simp [Value.oneCell']) ?_; (try go_simp))
            skip
            refine bodyPost_ret (results_cell_tmp3 rfl _ _ _ _ _ _ rfl (setRow_heap _ _ _ _ _ _ hC4) Try.underlying129 rfl size_rp) rfl ?_
            have hne : ¬ pkFix l = true := fun h => by have := (HFX.out.1 h).2.2; have := Q3.out; omega
            have HE : pkErr l = 2 := by unfold pkErr; rw [if_neg (by rw [HL.out, HPS.out]; have := HSS.out; have := ZZ.out; omega), HRB.out, if_pos rfl, if_neg hne]
            exact ⟨below_setRow HB4.out ZZ.out.2.2.1 _, .inr ⟨by rw [HE]; decide, by rw [HE]; rfl⟩⟩
          · have qI : ((A3 : Int) != 1) = false := by simp [bne]; omega
            have hfx : pkFix l = true := HFX.out.2 ⟨q1, by rw [← HA3.out]; exact q2, by omega⟩
            have HFB := Lib.hid hfx
            have I1 : (8192 ≤ (A : Int)) = False := eq_false (by omega)
            have I3 : ((C : Int) < 49152) = False := eq_false (by omega)
            clear q2 hfx q1 q3 hA2 hC2
            by_cases h208 : 208 < len
            · go_wp2_with (refine wpList_store_row rfl 129 _ _ rfl _ _ rfl rfl _ _ (by exact hC4) (by exact size_rp) (by rfl) (by simp [Value.oneCell']) ?_; (try go_simp))
              skip
              refine bodyPost_ret (results_cell_tmp3 rfl _ _ _ _ _ _ rfl (setRow_heap _ _ _ _ _ _ hC4) Try.underlying129 rfl size_rp) rfl ?_
              have HE : pkErr l = 4 := by unfold pkErr; rw [if_neg (by rw [HL.out, HPS.out]; have := HSS.out; have := ZZ.out; omega), HRB.out, if_pos rfl, HFB.out, if_pos rfl, HL.out, if_pos h208]
              exact ⟨below_setRow HB4.out ZZ.out.2.2.1 _, .inr ⟨by rw [HE]; decide, by rw [HE]; rfl⟩⟩
            · have hz := ZZ.out
              obtain ⟨D, hD⟩ : ∃ D, D = pdat l := ⟨_, rfl⟩
              obtain ⟨dl, hdl⟩ : ∃ dl, dl = len - 8 := ⟨_, rfl⟩
              have hDc : (l.drop 6).take dl = D := by rw [hD, hdl]; unfold pdat; rw [HL.out]
              have hDl : D.length = dl := by rw [hD, pdat_len (by rw [HL.out]; omega), HL.out, hdl]
              have hl6 : (l.drop 6).length = len - 6 := by rw [List.length_drop, HL.out]
              have hr6 := (rd_drop (k := 6) HR4.out (by omega) (by omega)).mono (Nat.le_trans hz.2.1 hz.2.2.2.2.1)
              have hmin : min dl (len - 6) = dl := by omega
              have hdI : (len : Int) - 8 = (dl : Int) := by omega
              obtain ⟨ka, hka⟩ : ∃ ka, ka = pkA l := ⟨_, rfl⟩
              obtain ⟨kc, hkc⟩ : ∃ kc, kc = pkC l := ⟨_, rfl⟩
              have hmA : Int.tmod (A : Int) 2048 = (ka : Int) := by rw [Int.tmod_eq_emod_of_nonneg (by omega), hka, HKA.out]; omega
              have hmC : Int.tmod (C : Int) 16384 = (kc : Int) := by rw [Int.tmod_eq_emod_of_nonneg (by omega), hkc, HKC.out]; omega
              have hkal : ka < 65536 := by have := pkA_lt l; omega
              have hkcl : kc < 65536 := by have := pkC_lt l; omega
              obtain ⟨t, ht⟩ : ∃ t, t = decide (4096 ≤ A) := ⟨_, rfl⟩
              have hkt : decide (4096 ≤ (A : Int)) = t := by rw [ht, decide_eq_decide]; omega
              have hdl2 : dl ≤ 1000 := by omega
              have HE : pkErr l = 0 := by unfold pkErr; rw [if_neg (by rw [HL.out, HPS.out]; have := HSS.out; omega), HRB.out, if_pos rfl, HFB.out, if_pos rfl, HL.out, if_neg h208]
              have HE := Lib.hid HE
              have HD := Lib.hid hD
              have HDC := Lib.hid hDc
              have HDL := Lib.hid hDl
              have HL6 := Lib.hid hl6
              have HR6 := Lib.hid hr6
              have HMIN := Lib.hid hmin
              have HDI := Lib.hid hdI
              have HKAE := Lib.hid hka
              have HKCE := Lib.hid hkc
              have HTE := Lib.hid ht
              have hdl6 : 6 ≤ len := by omega
              clear hz hD hDc hDl hl6 hr6 hmin hdI hka hkc ht hdl hC4
              go_wp2_with fail
              go_at_call 26
              refine (Cut_z _ (some ⟨b, off + 6, none⟩) (len - 6) (cap - 6) (l.drop 6) dl w4 HDI.out HL6.out HR6.out hdl2).mono ?_
              rintro e w5 ⟨v, rfl, hown, hb5⟩
              rw [HMIN.out, HDC.out] at hown
              obtain ⟨a9, c9, rfl⟩ := own_form hown
              have hC5 := (hb5.block g (Array.getElem?_eq_some_iff.1 HC4.out).1).trans HC4.out
              have HB5 := Lib.hid (HB4.out.trans (hb5.mono HB4.out.size))
              have HOWN := Lib.hid hown
              clear hown hb5
              go_wp2_with (refine wpList_store_row rfl 129 _ _ rfl _ _ rfl rfl _ _ (by exact hC5) (by exact size_rp) (by rfl) (by simp [Value.oneCell']) ?_; (try go_simp))
              skip
              refine bodyPost_ret (results_cell_tmp3 rfl _ _ _ _ _ _ rfl (setRow_heap _ _ _ _ _ _ hC5) Try.underlying129 rfl size_rp) rfl ?_
              have hB6 := below_setRow HB5.out ZZ.out.2.2.1 #[.bool t, .int .u16 ka, .int .u16 kc, .slice a9 dl c9]
              have hown := HOWN.out.kept (grown_setRow w5 g #[.bool t, .int .u16 ka, .int .u16 kc, .slice a9 dl c9]) (.inr (fun e => by have := (HOWN.out.lt g e).1; have := ZZ.out; omega))
              have hrd := rd_of_own (f := bv D) hown (fun i hi => bl_at D (by rw [HDL.out]; exact hi))
              refine ⟨hB6, .inl ⟨HE.out, a9, c9, ?_, ?_⟩⟩
              · rw [HKK.out, ← HTE.out, ← HKAE.out, ← HKCE.out, ← HD.out, HDL.out]; rfl
              · rw [← HD.out, HDL.out]; exact hrd
        · have qI : ((A3 : Int) != 1) = true := by simp [bne]; omega
          have hne : ¬ pkFix l = true := fun h => by have := (HFX.out.1 h).2.1; have := HA3.out; omega
          have HNE := Lib.hid hne
          have I1 : (8192 ≤ (A : Int)) = False := eq_false (by omega)
          clear q2 hne q1 hA2 hC2
          go_wp2_with (refine wpList_store_row rfl 129 _ _ rfl _ _ rfl rfl _ _ (by exact hC4) (by exact size_rp) (by rfl) (by simp [Value.oneCell']) ?_; (try go_simp))
          skip
          refine bodyPost_ret (results_cell_tmp3 rfl _ _ _ _ _ _ rfl (setRow_heap _ _ _ _ _ _ hC4) Try.underlying129 rfl size_rp) rfl ?_
          have HE : pkErr l = 2 := by unfold pkErr; rw [if_neg (by rw [HL.out, HPS.out]; have := HSS.out; have := ZZ.out; omega), HRB.out, if_pos rfl, if_neg HNE.out]
          exact ⟨below_setRow HB4.out ZZ.out.2.2.1 _, .inr ⟨by rw [HE]; decide, by rw [HE]; rfl⟩⟩
      · have I1 : (8192 ≤ (A : Int)) = True := eq_true (by omega)
        have Q1 := Lib.hid q1
        clear q1 hA2 hC2
        go_wp2_with (refine wpList_store_row rfl 129 _ _ rfl _ _ rfl rfl _ _ (by exact hC4) (by exact size_rp) (by rfl) (by simp [Value.oneCell']) ?_; (try go_simp))
        skip
        refine bodyPost_ret (results_cell_tmp3 rfl _ _ _ _ _ _ rfl (setRow_heap _ _ _ _ _ _ hC4) Try.underlying129 rfl size_rp) rfl ?_
        have hne : ¬ pkFix l = true := fun h => by have := (HFX.out.1 h).1; have := Q1.out; omega
        have HE : pkErr l = 2 := by unfold pkErr; rw [if_neg (by rw [HL.out, HPS.out]; have := HSS.out; have := ZZ.out; omega), HRB.out, if_pos rfl, if_neg hne]
        exact ⟨below_setRow HB4.out ZZ.out.2.2.1 _, .inr ⟨by rw [HE]; decide, by rw [HE]; rfl⟩⟩
  · have HE := Lib.hid (show pkErr l = 2 by unfold pkErr; rw [if_pos (.inr (by rw [HL.out, HPS.out]; omega))])
    have hsI : ((z : Int) + 7 != (len : Int)) = true := by simp [bne]; omega
    clear hs
    go_enter Try.func71, Try.ntmps71
    skip
    go_wp2_with fail
    rw [← HG.out, ← HW0.out]
    go_at_call 34
    refine (Value_any (some ⟨b, off + 4, none⟩) 2 (cap - 4) n ((l.drop 4).take 2) _ S4L.out HS4.out hb4 (by omega)).mono ?_
    rintro e w1 ⟨rfl, rfl⟩
    rw [← HZ.out]
    go_wp2_with (refine wpList_store_row rfl 129 _ _ rfl _ _ rfl rfl _ _ (by exact hC0) (by exact size_rp) (by rfl) (by simp [Value.oneCell']) ?_; (try go_simp))
    skip
    refine bodyPost_ret (results_cell_tmp3 rfl _ _ _ _ _ _ rfl (setRow_heap _ _ _ _ _ _ hC0) Try.underlying129 rfl size_rp) rfl ?_
    exact ⟨below_setRow HB0.out hgB _, .inr ⟨by rw [HE.out]; decide, by rw [HE.out]; rfl⟩⟩
end Go.Proofs.Ytmihhapedpalmaa
