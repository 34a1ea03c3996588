/- Contracts of layer 6 (cells), on: the document's reading. -/
import Derived.Test.YtpgophkegjeheaaCel2
namespace Go.Proofs.Ytpgophkegjeheaa
open Go.RowKit Go.Own
set_option linter.unusedVariables false
set_option linter.unusedSimpArgs false

theorem rd_mid {n len cap b off : Nat} {l : List Nat} {w : World} (h : Rd n w (some ⟨b, off, none⟩) len cap (bv l)) (i k : Nat) (hi : i + k ≤ len) : Rd n w (some ⟨b, off + i, none⟩) k (cap - i) (bv ((l.drop i).take k)) := by
  have h1 := h.le
  have h2 := h.top
  refine ⟨by omega, by omega, fun h => (by cases h), fun hk => ?_⟩
  obtain ⟨b', off', e, hb, hc⟩ := h.row (by omega)
  cases e
  refine ⟨b, off + i, rfl, hb, fun j hj => ?_⟩
  rw [show off + i + j = off + (i + j) by omega, hc (i + j) (by omega)]
  unfold bv
  simp only [List.getD, List.getElem?_take, List.getElem?_drop]
  rw [if_pos (by omega)]
set_option maxRecDepth 100000 in
set_option maxHeartbeats 2000000 in
theorem rParse_any (a : Option Addr) (len cap n : Nat) (l : List Nat) (w : World) (hl : l.length = len) (hn : n ≤ w.heap.size) (hr : Rd n w a len cap (bv l)) (hb : bytes l) :
    Calls Try.prog 73 #[.slice a len cap] w (ParsePost w l) := by
  have h1 := hr.le
  have h2 := hr.top
  unfold maxLen at h2
  have HR := Lib.hid hr
  have HL := Lib.hid hl
  clear hr hl
  by_cases h : len < 8
  · have he : perr l = 2 := by unfold perr; rw [if_pos (Or.inl (by rw [HL.out]; exact h))]
    have HE := Lib.hid he
    clear he
    go_enter Try.func73, Try.ntmps73
    go_wp2
    go_ret3
    exact ⟨Below.refl _ _, .inr ⟨by rw [HE.out]; decide, by rw [HE.out]; rfl⟩⟩
  · obtain ⟨b, off, rfl, hbn, hc⟩ := HR.out.row (by omega)
    have hr4 := rd_mid HR.out 4 2 (by omega)
    have hv4 := val_size l (by rw [HL.out]; omega)
    have hpz : psize l < 65536 := by have := hb.at 4; have := hb.at 5; unfold psize; omega
    obtain ⟨z, hz⟩ : ∃ z, z = psize l := ⟨_, rfl⟩
    rw [← hz] at hv4 hpz
    have HV4 := Lib.hid hv4
    have HZ := Lib.hid hz
    have HR4 := Lib.hid hr4
    clear hv4 hz hr4 hc
    by_cases hs : len = z + 8
    · have hrs := HR.out.rest (k := 6) (by omega)
      have hadd : (if cap = 6 then some (⟨b, off, none⟩ : Addr) else (some ⟨b, off, none⟩ : Option Addr).map (·.add 6)) = some ⟨b, off + 6, none⟩ := by
        rw [if_neg (by omega)]
        rfl
      rw [hadd] at hrs
      have hrs := hrs.same (g := bv (l.drop 6)) (fun i hi => by unfold bv; simp [List.getD])
      have HRS := Lib.hid hrs
      have HRF := Lib.hid ((HR.out.first (k := 4) (by omega)).same (g := bv (l.take 4)) (fun i hi => by unfold bv; simp [List.getD, hi]))
      have hneq : ((z : Int) != (len : Int) - 8) = false := by simp; omega
      have hvq := val_seq l (by rw [HL.out]; omega)
      have hpq := pseq_lt hb
      obtain ⟨q, hq⟩ : ∃ q, q = pseq l := ⟨_, rfl⟩
      rw [← hq] at hvq hpq
      have HVQ := Lib.hid hvq
      have HQ := Lib.hid hq
      have HSZ := Lib.hid hs
      clear hrs hadd hvq hq
      cases hR : rightB l
      · have he : perr l = 5 := by unfold perr; rw [if_neg (by rw [HL.out, ← HZ.out]; omega), hR]; rfl
        have HE := Lib.hid he
        have HRB := Lib.hid hR
        clear he hR hs
        go_enter Try.func73, Try.ntmps73
        go_wp2_with fail
        go_at_call 59
        refine (Value_any (some ⟨b, off + 4, none⟩) 2 (cap - 4) n ((l.drop 4).take 2) w (by simp; have := HL.out; omega) HR4.out ((hb.drop 4).take 2) (by omega)).mono ?_
        rintro e w' ⟨rfl, rfl⟩
        rw [HV4.out]
        go_wp2_with fail
        go_at_call 96
        refine (rRight_any _ _ _ n l w HL.out hn HR.out hb).mono ?_
        rintro e w2 ⟨rfl, hb2⟩
        rw [HRB.out]
        go_wp2
        go_ret3
        exact ⟨hb2, .inr ⟨by rw [HE.out]; decide, by rw [HE.out]; rfl⟩⟩
      · by_cases hz2 : 200 < z
        · have he : perr l = 4 := by unfold perr; rw [if_neg (by rw [HL.out, ← HZ.out]; omega), hR, ← HZ.out]; simp [hz2]
          have HE := Lib.hid he
          have HRB := Lib.hid hR
          have hl2 : ¬ (len : Int) ≤ 208 := by omega
          clear he hR hs
          go_enter Try.func73, Try.ntmps73
          go_wp2_with fail
          go_at_call 59
          refine (Value_any (some ⟨b, off + 4, none⟩) 2 (cap - 4) n ((l.drop 4).take 2) w (by simp; have := HL.out; omega) HR4.out ((hb.drop 4).take 2) (by omega)).mono ?_
          rintro e w' ⟨rfl, rfl⟩
          rw [HV4.out]
          go_wp2_with fail
          go_at_call 96
          refine (rRight_any _ _ _ n l w HL.out hn HR.out hb).mono ?_
          rintro e w2 ⟨rfl, hb2⟩
          rw [HRB.out]
          go_wp2
          go_ret3
          exact ⟨hb2, .inr ⟨by rw [HE.out]; decide, by rw [HE.out]; rfl⟩⟩
        · have he : perr l = 0 := by unfold perr; rw [if_neg (by rw [HL.out, ← HZ.out]; omega), hR, ← HZ.out]; simp [hz2]
          have HE := Lib.hid he
          have HRB := Lib.hid hR
          have hl2 : (len : Int) ≤ 208 := by omega
          have hl3 : len ≤ 208 := by omega
          have hl8 : ((len - 8 : Nat) : Int) = (len : Int) - 8 := by omega
          clear he hR hs
          go_enter Try.func73, Try.ntmps73
          go_wp2_with fail
          go_at_call 59
          refine (Value_any (some ⟨b, off + 4, none⟩) 2 (cap - 4) n ((l.drop 4).take 2) w (by simp; have := HL.out; omega) HR4.out ((hb.drop 4).take 2) (by omega)).mono ?_
          rintro e w' ⟨rfl, rfl⟩
          rw [HV4.out]
          go_wp2_with fail
          go_at_call 96
          refine (rRight_any _ _ _ n l w HL.out hn HR.out hb).mono ?_
          rintro e w2 ⟨rfl, hb2⟩
          rw [HRB.out]
          go_wp2
          have hn2 := Nat.le_trans hn hb2.size
          have HRS2 := Lib.hid (HRS.out.below' hb2 hn)
          have HRF2 := Lib.hid (HRF.out.below' hb2 hn)
          obtain ⟨I, W, hne, hWI, hIW⟩ := Go.Mix.family (fun v => Below w2.heap.size w2 v) (Below.refl _ _)
          have HJ := Lib.hid hIW
          have HW := Lib.hid hWI
          clear hWI hIW
          refine Go.Flo.wp_region (fun w' => ∃ i, w' = W i) 13 [Go.Flo.Spec.is (.int .u64 (q : Nat)), SpB (pdat l)] (by kernel_rfl) (by kernel_rfl) (by decide) (by rintro _ w' ⟨i, rfl⟩ hb; exact HJ.out _ ((HW.out i).trans (hb.mono (HW.out i).size))) (HJ.out _ (Below.refl _ _).drew) ?_
          simp only [Go.Flo.pair, Go.Mix.calm, List.take, List.drop, if_true, Bool.false_eq_true, if_false, Nat.reduceAdd, Nat.reduceSub]
          (repeat (first | (refine Go.Flo.fw_calm rfl ?_ (fun K hK => ?_); (first | exact Go.Mix.wanted_none rfl | exact Go.Mix.wanted_tt rfl rfl rfl | exact Go.Mix.wanted_ff rfl rfl rfl); go_big_quiet_op; refine hK _ ?_; clear hK K) | (refine Go.Flo.fw_skip ?_ (fun K hK => ?_); (first | exact Go.Mix.wanted_tf rfl rfl rfl | exact Go.Mix.wanted_ft rfl rfl rfl); go_simp; refine hK _ ?_; clear hK K) | (refine Go.Flo.fw_any rfl ?_ (fun K hK => ?_); (first | exact Go.Mix.wanted_none rfl | exact Go.Mix.wanted_tt rfl rfl rfl | exact Go.Mix.wanted_ff rfl rfl rfl); go_simp; (try (go_ints; try go_simp)); refine hK _ ?_; clear hK K)))
          refine Go.Flo.fw_loud rfl ?_ rfl (by simp) (fun wv hwv hav K hK => ?_) (fun v hv K hK => ?_)
          · (first | exact Go.Mix.wanted_none rfl | exact Go.Mix.wanted_tt rfl rfl rfl | exact Go.Mix.wanted_ff rfl rfl rfl)
          · obtain ⟨iv, rfl⟩ := hwv
            have hbv := HW.out iv
            (first | go_big_op | go_simp)
            go_at_call 59
            refine (Value_any _ _ _ n (l.take 4) _ (by rw [List.length_take, HL.out]; omega) (HRF2.out.below' hbv hn2) (hb.take 4) (by omega)).mono ?_
            rintro e w' ⟨rfl, rfl⟩
            rw [HVQ.out]
            exact hK _ _ (Go.Flo.owes_is _ rfl (Below.refl _ _))
          obtain rfl := hv.is
          go_simp
          refine hK _ ?_
          clear hK K hv
          (repeat (first | (refine Go.Flo.fw_calm rfl ?_ (fun K hK => ?_); (first | exact Go.Mix.wanted_none rfl | exact Go.Mix.wanted_tt rfl rfl rfl | exact Go.Mix.wanted_ff rfl rfl rfl); go_big_quiet_op; refine hK _ ?_; clear hK K) | (refine Go.Flo.fw_skip ?_ (fun K hK => ?_); (first | exact Go.Mix.wanted_tf rfl rfl rfl | exact Go.Mix.wanted_ft rfl rfl rfl); go_simp; refine hK _ ?_; clear hK K) | (refine Go.Flo.fw_any rfl ?_ (fun K hK => ?_); (first | exact Go.Mix.wanted_none rfl | exact Go.Mix.wanted_tt rfl rfl rfl | exact Go.Mix.wanted_ff rfl rfl rfl); go_simp; (try (go_ints; try go_simp)); refine hK _ ?_; clear hK K)))
          refine Go.Flo.fw_loud rfl ?_ rfl (by simp) (fun wv hwv hav K hK => ?_) (fun v hv K hK => ?_)
          · (first | exact Go.Mix.wanted_none rfl | exact Go.Mix.wanted_tt rfl rfl rfl | exact Go.Mix.wanted_ff rfl rfl rfl)
          · obtain ⟨iv, rfl⟩ := hwv
            have hbv := HW.out iv
            (first | go_big_op | go_simp)
            go_at_call 16
            have hcut := Cut_any (some ⟨b, off + 6, none⟩) (len - 6) (cap - 6) (l.drop 6) (len - 8) (W iv) (by rw [List.length_drop, HL.out]) ((HRS2.out.below' hbv hn2).mono (Nat.le_trans hn2 hbv.size)) (by omega)
            rw [hl8] at hcut
            refine hcut.mono ?_
            rintro e w' ⟨v, rfl, hown, hbb⟩
            rw [show min (len - 8) (len - 6) = len - 8 by omega] at hown
            have hpd : (l.drop 6).take (len - 8) = pdat l := by unfold pdat; rw [HL.out]
            rw [hpd] at hown
            exact hK _ _ (owes_B (l := pdat l) (by rw [pdat_len (by rw [HL.out]; omega), HL.out]) rfl hbb hown)
          obtain ⟨a9, c9, rfl⟩ := ex_B hv
          go_simp
          refine hK _ ?_
          clear hK K hv
          (repeat (first | (refine Go.Flo.fw_calm rfl ?_ (fun K hK => ?_); (first | exact Go.Mix.wanted_none rfl | exact Go.Mix.wanted_tt rfl rfl rfl | exact Go.Mix.wanted_ff rfl rfl rfl); go_big_quiet_op; refine hK _ ?_; clear hK K) | (refine Go.Flo.fw_skip ?_ (fun K hK => ?_); (first | exact Go.Mix.wanted_tf rfl rfl rfl | exact Go.Mix.wanted_ft rfl rfl rfl); go_simp; refine hK _ ?_; clear hK K) | (refine Go.Flo.fw_any rfl ?_ (fun K hK => ?_); (first | exact Go.Mix.wanted_none rfl | exact Go.Mix.wanted_tt rfl rfl rfl | exact Go.Mix.wanted_ff rfl rfl rfl); go_simp; (try (go_ints; try go_simp)); refine hK _ ?_; clear hK K)))
          refine Go.Flo.fw_nil ?_
          intro w4 hww4 hfw4 huw4
          refine Go.Flo.tw_nil ?_
          obtain ⟨iend, hiend⟩ := hww4
          have hbw4 := HW.out iend
          rw [← hiend] at hbw4
          clear hiend iend huw4
          have hsays := says_B ((hfw4 (some 33)).1.1.1.2 rfl).1
          clear hfw4 HJ HW hne
          clear W I
          go_wp2
          go_ret3
          rw [HQ.out]
          exact ⟨hb2.trans (hbw4.mono hb2.size), .inl ⟨HE.out, _, _, rfl, hsays⟩⟩
    · have he : perr l = 2 := by unfold perr; rw [if_pos (Or.inr (by rw [HL.out, ← HZ.out]; omega))]
      have HE := Lib.hid he
      clear he
      go_enter Try.func73, Try.ntmps73
      go_wp2_with fail
      go_at_call 59
      refine (Value_any (some ⟨b, off + 4, none⟩) 2 (cap - 4) n ((l.drop 4).take 2) w (by simp; have := HL.out; omega) HR4.out ((hb.drop 4).take 2) (by omega)).mono ?_
      rintro e w' ⟨rfl, rfl⟩
      rw [HV4.out]
      have hne : ((z : Int) != (len : Int) - 8) = true := by simp; omega
      go_wp2
      go_ret3
      exact ⟨Below.refl _ _, .inr ⟨by rw [HE.out]; decide, by rw [HE.out]; rfl⟩⟩
end Go.Proofs.Ytpgophkegjeheaa
