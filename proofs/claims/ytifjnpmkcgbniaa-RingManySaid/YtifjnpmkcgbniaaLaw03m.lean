/- Layer 3: what is pushed at once is what is pushed one by one. -/
import Derived.Test.YtifjnpmkcgbniaaLaw03q
import Derived.Test.YtifjnpmkcgbniaaRingAl
namespace Go.Proofs.Ytifjnpmkcgbniaa
open Go.RowKit Go.Own
set_option linter.unusedVariables false
set_option linter.unusedSimpArgs false
theorem lastn_lastn {n : Nat} (M : List Int) (x : Int) (hn : 1 ≤ n) : lastn n (lastn n M ++ [x]) = lastn n (M ++ [x]) := by
  by_cases h : M.length < n
  · rw [lastn_all (M := M) (by omega)]
  · obtain ⟨y, T, e1, e2, e3⟩ := lastn_full x hn (show n ≤ M.length by omega)
    have hl := lastn_len n M
    rw [e1] at hl ⊢
    simp at hl
    rw [← e2]
    unfold lastn
    rw [show ((y :: T) ++ [x]).length - n = 1 by simp; omega]
    rfl
set_option maxRecDepth 100000 in
set_option maxHeartbeats 4000000 in
theorem walk_RingMany (rm : Int) (a0 : Option Addr) (len0 cap0 : Nat) (z : List Int) (w : World) (wr : (Lit.int .u8 rm).wf = true) (w0 : IsRow .i64 w a0 len0 cap0 z) :
    Calls Try.prog 13 #[.int .u8 rm, .slice a0 len0 cap0] w fun e w' => e = .returned (.bool true) ∧ Below w.heap.size w w' := by
  obtain ⟨i0, hi, hz0, hz1, hz2⟩ := info_parts info_int
  obtain ⟨l0, hl0, hr0⟩ := isRow_ints w0
  obtain ⟨r0, r1⟩ := bounds_u8 wr
  obtain ⟨rm, rfl⟩ := Int.eq_ofNat_of_zero_le r0
  have h1 := hr0.le
  have h2 := hr0.top
  unfold maxLen at h2
  obtain ⟨q, hq⟩ : ∃ q, q = rm % 9 := ⟨_, rfl⟩
  have hqI : (rm : Int) % 9 = (q : Int) := by omega
  obtain ⟨n, hn⟩ : ∃ n, n = 1 + q := ⟨_, rfl⟩
  have hnI : 1 + (q : Int) = (n : Int) := by omega
  have hn1 : 1 ≤ n := by omega
  have hn9 : n ≤ 9 := by omega
  obtain ⟨m, hm⟩ : ∃ m, m = min len0 40 := ⟨_, rfl⟩
  have hm40 : m ≤ 40 := by omega
  have hml : m ≤ len0 := by omega
  have hmn : ∀ w : World, (Builtin.min_ #[3, 3] 3 #[.int .i64 (len0 : Nat), .int .i64 40]).run Try.prog w = .ok (.int .i64 (m : Nat)) w := fun w => by
    rw [run_min2, hm]; congr 2; omega
  have hsl : ∀ w : World, (Instr.slice 66 (.slice a0 len0 cap0) none (some (.int .i64 (m : Nat))) none).run Try.prog w = .ok (.slice a0 m cap0) w := by
    intro w
    rw [run_slice_h w 66 a0 len0 cap0 (by kernel_rfl) .i64 _ (by omega) (by omega)]
    have hz : (sizeOf (Try.prog.elem 66)).run Try.prog w = .ok 1 w := by kernel_rfl
    rw [hz]
    have ha : (if cap0 = 0 then a0 else a0.map (·.add 0)) = a0 := by
      split
      · rfl
      · cases a0 <;> simp [Addr.add]
    simp [sliced, Result.andThen]
    cases a0 <;> simp [Addr.add]
  have hr1 := hr0.first hml
  obtain ⟨L, hL⟩ : ∃ L, L = l0.take m := ⟨_, rfl⟩
  have hLm : L.length = m := by rw [hL, List.length_take, hl0]; omega
  have hrL : Rd w.heap.size w a0 m cap0 (iv L) := hr1.same (fun i hi => by unfold iv; rw [hL]; simp [List.getD, hi])
  have HRL := Lib.hid hrL
  have HLM := Lib.hid hLm
  clear wr w0 hr0 hl0 hr1 hL hrL hLm hm hq hn r0 r1
  go_enter Try.func13, Try.ntmps13
  go_wp2_with (first | (go_at_call 36; refine (awake03 _).mono ?_; rintro e w1 ⟨rfl, hb1⟩) | (at_builtin; refine wpList_app rfl _ _ 66 rfl w.heap.size 3 i0 (.int .i64 0) 8 Try.underlying66 hi hz0 hz1 hz2 rfl _ _ _ rfl (World.ownsRow_made _ #[] 0 hb1.size (by decide) rfl) rfl ((HRL.out.below hb1).below' ((Below.refl _ _).alloc (Nat.le_refl _) _) hb1.size) (iv_one _) ?_ ?_ ?_ ?_))
  · unfold maxLen; omega
  · omega
  · simp; exact Nat.le_succ_of_le hb1.size
  intro v2 w2 hown2 hgrow2
  have hil : List.map (iv L) (List.range m) = il L := by rw [← HLM.out]; exact iv_range L
  rw [hil] at hown2
  have hB2 : Below w.heap.size w w2 := (hb1.alloc hb1.size _).grown hgrow2 (by simp; exact Nat.le_succ_of_le hb1.size) (fun j hj => by simp [Value.ownBlock] at hj; have := hb1.size; omega)
  obtain ⟨a2, c2, rfl⟩ := own_form hown2
  have HR2 := Lib.hid (rd_of_own (f := iv L) hown2 (fun i hi => il_at L (by rw [HLM.out]; exact hi)))
  have HB2 := Lib.hid hB2
  have hs2 : w.heap.size ≤ w2.heap.size := hB2.size
  have ha2 : ∀ x, a2 = some x → x.block < w2.heap.size := fun x hx => (hown2.lt x.block (by rw [hx]; rfl)).2
  have HA2 := Lib.hid ha2
  clear ha2
  clear hown2 hgrow2 hil hB2 hb1 hmn hsl HRL h1 h2
  go_wp2_with fail
  go_at_call 37
  refine (iNew_ok n w2 hn1 (by omega)).mono ?_
  rintro e w3 ⟨ga, ba, rfl, hRa, hga, hba, hB3⟩
  have HA3 := Lib.hid hRa
  have HB3 := Lib.hid (HB2.out.trans (hB3.mono hs2))
  have HRB3 := Lib.hid (HR2.out.below hB3)
  have hga3 := hRa.le.2.2.2.2.2.1
  have hba3 := hRa.le.2.2.2.2.2.2.1
  have hs3 : w2.heap.size ≤ w3.heap.size := hB3.size
  clear hRa hB3
  go_wp2_with fail
  go_at_call 37
  refine (iNew_ok n w3 hn1 (by omega)).mono ?_
  rintro e w4 ⟨gb, bb, rfl, hRb, hgb, hbb, hB4⟩
  have HBR := Lib.hid hRb
  have HA4 := Lib.hid (HA3.out.below hB4 (Nat.le_refl _))
  have HB4 := Lib.hid (HB3.out.trans (hB4.mono (by omega)))
  have HRB4 := Lib.hid (HRB3.out.below (hB4.mono hs3))
  have hgb4 := hRb.le.2.2.2.2.2.1
  have hbb4 := hRb.le.2.2.2.2.2.2.1
  have hs4 : w3.heap.size ≤ w4.heap.size := hB4.size
  clear hRb hB4 HR2 HB2 HRB3 HA3 HB3
  have ht0 : ([] : List Int).length + m - n = m - n := by simp
  have HT0 := Lib.hid ht0
  clear ht0
  go_wp2_with fail
  go_at_call 57
  refine (rPush a2 m c2 L HA4.out HLM.out (HRB4.out.mono (by omega)) (fun x hx => by have := HA2.out x hx; exact ⟨by omega, by omega⟩) (by omega)).mono ?_
  rintro e w5 ⟨rfl, h5, k5⟩
  rw [HT0.out]
  rw [HT0.out, List.nil_append, show min (0 + (m - n)) 65535 = m - n by omega] at h5
  obtain ⟨t, ht⟩ : ∃ t, t = m - n := ⟨_, rfl⟩
  rw [← ht] at h5
  rw [← ht]
  have HTT := Lib.hid ht
  have HA5 := Lib.hid h5
  have HB5 := Lib.hid (HBR.out.kept k5 (by omega) (by omega) (by omega) (by omega))
  have HR5 := Lib.hid (HRB4.out.below (k5.below (B := w2.heap.size) (by omega) (by omega) (by omega)))
  have HW5 := Lib.hid (HB4.out.trans (k5.below (B := w.heap.size) (by omega) (by omega) (by omega)))
  have hs5 : w4.heap.size ≤ w5.heap.size := k5.size
  clear h5 k5 ht HA4 HRB4 HB4 HBR
  go_wp2
  go_loopw [11, 46] (fun kp i wr => ∃ j : Nat, j ≤ m ∧ i = .int .i64 j ∧ kp = .int .i64 ((j - n : Nat) : Int) ∧ Ring wr gb bb n (lastn n (L.take j)) (j - n) 0 ∧ Kept gb bb w5 wr) (fun _ i _ => m - (intOf i).toNat)
  case atStart => exact ⟨0, Nat.zero_le _, rfl, by simp, by simpa [lastn] using HB5.out, Kept.refl _ _ _⟩
  case round =>
    obtain ⟨j, hj, rfl, rfl, hRg, hKp⟩ := hrel
    have hbw : Below w2.heap.size w5 wr := hKp.below (by omega) (by omega) (by omega)
    have hsr : w5.heap.size ≤ wr.heap.size := hKp.size
    by_cases hlt : j < m
    · obtain ⟨bL, off, rfl, _, hc⟩ := (HR5.out.below hbw).at hlt
      unfold iv at hc
      obtain ⟨x, hx⟩ : ∃ x, x = L.getD j 0 := ⟨_, rfl⟩
      rw [← hx] at hc
      have hll : (lastn n (L.take j)).length = min n j := by rw [lastn_len, List.length_take, HLM.out]; omega
      have e1 : lastn n (lastn n (L.take j) ++ [x]) = lastn n (L.take (j + 1)) := by rw [lastn_lastn _ _ hn1, takeL_succ L (by rw [HLM.out]; exact hlt), ← hx]
      have e2 : (lastn n (L.take j)).length + 1 - n = (j + 1 - n) - (j - n) := by rw [hll]; omega
      obtain ⟨dd, hdd⟩ : ∃ dd, dd = (j + 1 - n) - (j - n) := ⟨_, rfl⟩
      rw [← hdd] at e2
      have e3 : min ((j - n) + dd) 65535 = j + 1 - n := by omega
      have e4 : ((j - n : Nat) : Int) + (dd : Int) = ((j + 1 - n : Nat) : Int) := by omega
      have hdd1 : dd ≤ 50 := by omega
      obtain ⟨jn, hjn⟩ : ∃ jn, jn = j - n := ⟨_, rfl⟩
      have hjn2 : jn ≤ 50 := by omega
      rw [← hjn] at e3 e4 hRg
      rw [← hjn]
      have E1 := Lib.hid e1
      have E2 := Lib.hid e2
      have E3 := Lib.hid e3
      have E4 := Lib.hid e4
      have HRG := Lib.hid hRg
      have HKP := Lib.hid hKp
      clear hx hll e1 e2 e3 e4 hdd hjn hRg hKp hbw
      have hle := HRG.out.le
      go_wp2_with fail
      go_at_call 57
      have hal : Below wr.heap.size wr (wr.alloc (.cells #[.int .i64 x] 3)) := (Below.refl _ _).alloc (Nat.le_refl _) _
      have hrd : Rd (wr.alloc (.cells #[.int .i64 x] 3)).heap.size (wr.alloc (.cells #[.int .i64 x] 3)) (some ⟨wr.heap.size, 0, none⟩) 1 1 (iv [x]) :=
        ⟨Nat.le_refl _, by unfold maxLen; omega, fun h => (by cases h), fun _ => ⟨wr.heap.size, 0, rfl, by simp, fun i hi => by
          obtain rfl : i = 0 := by omega
          exact cell_of_row _ _ 0 _ _ _ (heap_alloc_new wr _)⟩⟩
      refine (rPush (some ⟨wr.heap.size, 0, none⟩) 1 1 [x] (HRG.out.below hal (Nat.le_refl _)) rfl hrd (fun y hy => by cases hy; exact ⟨by show wr.heap.size ≠ gb; omega, by show wr.heap.size ≠ bb; omega⟩) (by omega)).mono ?_
      rintro e w6 ⟨rfl, h6, k6⟩
      rw [E2.out]
      rw [E1.out, E2.out, E3.out] at h6
      have H6 := Lib.hid h6
      have K6 := Lib.hid (HKP.out.trans ((Kept.of_below hal).trans k6))
      clear h6 k6 hal hrd hc
      go_wp2
      go_roundw
      case rel => exact ⟨j + 1, by omega, by go_num, ret_i E4.out, H6.out, K6.out⟩
      case measure => simp [intOf]; omega
    · obtain rfl : j = m := by omega
      rw [List.take_of_length_le (by rw [HLM.out]; exact Nat.le_refl _), ← HTT.out] at hRg
      rw [← HTT.out]
      have hA := HA5.out.kept hKp (by omega) (by omega) (by omega) (by omega)
      obtain ⟨M, hM⟩ : ∃ M, M = lastn n L := ⟨_, rfl⟩
      rw [← hM] at hRg hA
      have hMl := hA.le.1
      have HB6 := Lib.hid hRg
      have HA6 := Lib.hid hA
      have HW6 := Lib.hid (HW5.out.trans (hKp.below (by omega) (by omega) (by omega)))
      have hmn' : min 100000 M.length = M.length := by omega
      have hMt : M.take 100000 = M := List.take_of_length_le (by omega)
      have HMN := Lib.hid hmn'
      have HMT := Lib.hid hMt
      obtain ⟨wf, rfl⟩ : ∃ wf : World, wf = wr := ⟨_, rfl⟩
      clear hRg hA hM hbw hKp hmn' hMt
      go_wp2_with fail
      go_at_call 45
      refine (rAll HA6.out 100000 (by omega) (by omega)).mono ?_
      rintro e w7 ⟨v7, rfl, hown7, hb7⟩
      obtain ⟨a7, c7, rfl⟩ := own_form hown7
      rw [HMN.out, HMT.out] at hown7
      rw [HMN.out]
      have HX7 := Lib.hid (rd_of_own (f := iv M) hown7 (fun i hi => il_at M hi))
      have HA7 := Lib.hid (HA6.out.below hb7 (Nat.le_refl _))
      have HB7 := Lib.hid (HB6.out.below hb7 (Nat.le_refl _))
      have HW7 := Lib.hid (HW6.out.trans (hb7.mono (by omega)))
      have hs7 : wf.heap.size ≤ w7.heap.size := hb7.size
      obtain ⟨ml, hml⟩ : ∃ ml, ml = M.length := ⟨_, rfl⟩
      have HML := Lib.hid hml
      rw [← hml] at HX7 HMN hMl
      rw [← hml]
      clear hown7 hb7 hml
      go_wp2_with fail
      go_at_call 45
      refine (rAll HB7.out 100000 (by omega) (by omega)).mono ?_
      rintro e w8 ⟨v8, rfl, hown8, hb8⟩
      obtain ⟨a8, c8, rfl⟩ := own_form hown8
      rw [← HML.out, HMN.out, HMT.out] at hown8
      rw [← HML.out, HMN.out]
      have HX8 := Lib.hid (rd_of_own (f := iv M) hown8 (fun i hi => il_at M (by rw [← HML.out]; exact hi)))
      have HX78 := Lib.hid (HX7.out.below hb8)
      have HA8 := Lib.hid (HA7.out.below hb8 (Nat.le_refl _))
      have HB8 := Lib.hid (HB7.out.below hb8 (Nat.le_refl _))
      have HW8 := Lib.hid (HW7.out.trans (hb8.mono (by omega)))
      clear hown8 hb8
      go_wp2_with fail
      go_at_call 40
      refine (SameI_any a7 a8 ml ml c7 c8 _ _ M M _ HML.out.symm HML.out.symm HX78.out HX8.out).mono ?_
      rintro e w9 ⟨rfl, q9, rfl⟩
      simp only [decide_true]
      have hd : Below w8.heap.size w8 (w8.drewN q9) := below_drewsI _ _ _
      have HA9 := Lib.hid (HA8.out.below hd (Nat.le_refl _))
      have HB9 := Lib.hid (HB8.out.below hd (Nat.le_refl _))
      have HW9 := Lib.hid (HW8.out.trans (below_drewsI _ w8 q9))
      obtain ⟨w9, hw9⟩ : ∃ w9, w9 = w8.drewN q9 := ⟨_, rfl⟩
      rw [← hw9] at HA9 HB9 HW9
      rw [← hw9]
      clear hw9 hd
      go_wp2_with fail
      go_at_call 43
      refine (rLost HA9.out).mono ?_
      rintro e w' ⟨rfl, rfl⟩
      go_wp2_with fail
      go_at_call 43
      refine (rLost HB9.out).mono ?_
      rintro e w' ⟨rfl, rfl⟩
      go_wp2_with fail
      go_at_call 41
      refine (rLen HA9.out).mono ?_
      rintro e w' ⟨rfl, rfl⟩
      go_wp2_with fail
      go_at_call 41
      refine (rLen HB9.out).mono ?_
      rintro e w' ⟨rfl, rfl⟩
      go_wp2
      go_ret
      exact ⟨rfl, HW9.out⟩
end Go.Proofs.Ytifjnpmkcgbniaa
