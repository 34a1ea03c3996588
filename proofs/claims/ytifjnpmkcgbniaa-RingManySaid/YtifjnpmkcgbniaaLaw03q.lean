/- Layer 3: what is kept by offering, and by pushing. -/
import Derived.Test.YtifjnpmkcgbniaaLaw03
namespace Go.Proofs.Ytifjnpmkcgbniaa
open Go.RowKit Go.Own
set_option linter.unusedVariables false
set_option linter.unusedSimpArgs false

theorem eq_of_takesI {l m : List Int} (h1 : l.length = m.length) (h : l.take l.length = m.take l.length) : l = m := by
  rw [List.take_length] at h
  rw [h, h1, List.take_length]
set_option maxHeartbeats 1000000 in
theorem SameI_any (a b : Option Addr) (la lb ca cb n m : Nat) (l r : List Int) (w : World) (hl : l.length = la) (hr : r.length = lb) (ra : Rd n w a la ca (iv l)) (rb : Rd m w b lb cb (iv r)) :
    Calls Try.prog 40 #[.slice a la ca, .slice b lb cb] w fun e w' => e = .returned (.bool (decide (l = r))) ∧ ∃ j, w' = w.drewN j := by
  have h1 := ra.le
  have h2 := ra.top
  have h3 := rb.le
  have h4 := rb.top
  unfold maxLen at h2 h4
  by_cases hne : la = lb
  · subst hne
    go_enter Try.func40, Try.ntmps40
    go_wp2
    go_loopw [13] (fun i wr => ∃ k : Nat, k ≤ la ∧ i = .int .i64 k ∧ l.take k = r.take k ∧ ∃ j, wr = w.drewN j) (fun i _ => la - (intOf i).toNat)
    case atStart => exact ⟨0, Nat.zero_le _, rfl, rfl, 0, rfl⟩
    case round =>
      obtain ⟨k, hk, rfl, heq, j, rfl⟩ := hrel
      by_cases hlt : k < la
      · obtain ⟨ba, oa, rfl, _, hca⟩ := ra.at hlt
        obtain ⟨bb, ob, rfl, _, hcb⟩ := rb.at hlt
        unfold iv at hca hcb
        obtain ⟨x, hx⟩ : ∃ x, x = l.getD k 0 := ⟨_, rfl⟩
        obtain ⟨y, hy⟩ : ∃ y, y = r.getD k 0 := ⟨_, rfl⟩
        rw [← hx] at hca
        rw [← hy] at hcb
        have hE := Lib.hid heq
        have HX := Lib.hid hx
        have HY := Lib.hid hy
        clear heq hx hy
        by_cases hxy : x = y
        · subst hxy
          go_wp2
          go_quiet (fail)
          all_goals
            go_wp2
            go_roundw
            case rel => exact ⟨k + 1, by omega, by go_num, by rw [takeL_succ l (by omega), takeL_succ r (by omega), hE.out, ← HX.out, ← HY.out], _, rfl⟩
            case measure => simp [intOf]; omega
        · have hne' : (x == y) = false := by rw [beq_eq_false_iff_ne]; omega
          have hne2 : (x != y) = true := by simp [bne, hne']
          have hd : l ≠ r := fun e => hxy (by rw [HX.out, HY.out, e])
          go_wp2
          go_quiet (fail)
          all_goals
            go_wp2
            go_ret
            exact ⟨by simp [hd], _, World.drewN_drewN _ _ _⟩
      · obtain rfl : k = la := by omega
        go_wp2
        go_ret
        have : l = r := eq_of_takesI (by omega) (by rw [hl]; exact heq)
        exact ⟨by simp [this], _, rfl⟩
  · have hd : l ≠ r := fun e => hne (by rw [← hl, ← hr, e])
    have hne2 : ((la : Int) != (lb : Int)) = true := by simp [bne]; omega
    go_enter Try.func40, Try.ntmps40
    go_wp2
    go_ret
    exact ⟨by simp [hd], 0, rfl⟩
theorem isRow_ints {w : World} {a : Option Addr} {len cap : Nat} {z : List Int} (h : IsRow .i64 w a len cap z) : ∃ l : List Int, l.length = len ∧ Rd w.heap.size w a len cap (iv l) := by
  rcases h with ⟨rfl, rfl, rfl, rfl⟩ | ⟨x, rfl, hl, hm, hz, hcell, hwz⟩
  · exact ⟨[], rfl, Rd.none_ _ _ _⟩
  · refine ⟨z.take len, by simp; omega, (rd_of_row hl hm (by omega) hcell).same fun i hi => ?_⟩
    unfold iv
    simp [List.getD, hi]
theorem run_min2 {P : Program} (ats : Array TypeId) (ty : TypeId) (k : IntKind) (a b : Int) (w : World) : (Builtin.min_ ats ty #[.int k a, .int k b]).run P w = .ok (.int k (min a b)) w := by
  have e2 : (Builtin.min2 (.int k a) (.int k b)).run P w = .ok (.int k (min a b)) w := by
    unfold Builtin.min2
    by_cases h : b < a
    · have e : min a b = b := by omega
      simp [e, h]
    · have e : min a b = a := by omega
      simp [e, h]
  simp [Builtin.min_, e2]
theorem iv_one (l : List Int) (i : Nat) : (iv l i).oneCell' = true := rfl
theorem iv_range (l : List Int) : (List.range l.length).map (iv l) = il l := by
  apply List.ext_getElem?
  intro i
  by_cases h : i < l.length
  · rw [il_at l h]; simp [h, iv]
  · simp [il, h]
theorem run_slice_upto (a : Option Addr) (len cap k : Nat) (hk : k ≤ cap) (w : World) : (Instr.slice 66 (.slice a len cap) none (some (.int .i64 (k : Nat))) none).run Try.prog w = .ok (.slice a k cap) w := by
  rw [run_slice_h w 66 a len cap (by kernel_rfl) .i64 _ (by omega) (by omega)]
  have hz : (sizeOf (Try.prog.elem 66)).run Try.prog w = .ok 1 w := by kernel_rfl
  rw [hz]
  simp [sliced, Result.andThen]
  cases a <;> simp [Addr.add]
theorem run_slice_from (a : Option Addr) (len cap k : Nat) (hk : k ≤ len) (w : World) : (Instr.slice 66 (.slice a len cap) (some (.int .i64 (k : Nat))) none none).run Try.prog w = .ok (.slice (if cap = k then a else a.map (·.add k)) (len - k) (cap - k)) w := by
  rw [run_slice_l w 66 a len cap (by kernel_rfl) .i64 _ (by omega) (by omega)]
  have hz : (sizeOf (Try.prog.elem 66)).run Try.prog w = .ok 1 w := by kernel_rfl
  rw [hz]
  simp [sliced, Result.andThen]
set_option maxRecDepth 100000 in
set_option maxHeartbeats 4000000 in
theorem walk_RingQueues (rm : Int) (a0 : Option Addr) (len0 cap0 : Nat) (z : List Int) (w : World) (wr : (Lit.int .u8 rm).wf = true) (w0 : IsRow .i64 w a0 len0 cap0 z) :
    Calls Try.prog 12 #[.int .u8 rm, .slice a0 len0 cap0] w fun e w' => e = .returned (.bool true) ∧ Below w.heap.size w w' := by
  obtain ⟨i0, hi, hz0, hz1, hz2⟩ := info_parts info_int
  obtain ⟨l0, hl0, hr0⟩ := isRow_ints w0
  obtain ⟨r0, r1⟩ := bounds_u8 wr
  obtain ⟨rm, rfl⟩ := Int.eq_ofNat_of_zero_le r0
  have h1 := hr0.le
  have h2 := hr0.top
  unfold maxLen at h2
  obtain ⟨q, hq⟩ : ∃ q, q = rm % 9 := ⟨_, rfl⟩
  have hqI : (rm : Int) % 9 = (q : Int) := by omega
  obtain ⟨n, hn⟩ : ∃ n, n = 1 + q := ⟨_, rfl⟩
  have hnI : 1 + (q : Int) = (n : Int) := by omega
  have hn1 : 1 ≤ n := by omega
  have hn9 : n ≤ 9 := by omega
  obtain ⟨m, hm⟩ : ∃ m, m = min len0 40 := ⟨_, rfl⟩
  have hm40 : m ≤ 40 := by omega
  have hml : m ≤ len0 := by omega
  have hmn : ∀ w : World, (Builtin.min_ #[3, 3] 3 #[.int .i64 (len0 : Nat), .int .i64 40]).run Try.prog w = .ok (.int .i64 (m : Nat)) w := fun w => by
    rw [run_min2, hm]; congr 2; omega
  have hsl : ∀ w : World, (Instr.slice 66 (.slice a0 len0 cap0) none (some (.int .i64 (m : Nat))) none).run Try.prog w = .ok (.slice a0 m cap0) w := by
    intro w
    rw [run_slice_h w 66 a0 len0 cap0 (by kernel_rfl) .i64 _ (by omega) (by omega)]
    have hz : (sizeOf (Try.prog.elem 66)).run Try.prog w = .ok 1 w := by kernel_rfl
    rw [hz]
    have ha : (if cap0 = 0 then a0 else a0.map (·.add 0)) = a0 := by
      split
      · rfl
      · cases a0 <;> simp [Addr.add]
    simp [sliced, Result.andThen]
    cases a0 <;> simp [Addr.add]
  have hr1 := hr0.first hml
  obtain ⟨L, hL⟩ : ∃ L, L = l0.take m := ⟨_, rfl⟩
  have hLm : L.length = m := by rw [hL, List.length_take, hl0]; omega
  have hrL : Rd w.heap.size w a0 m cap0 (iv L) := hr1.same (fun i hi => by unfold iv; rw [hL]; simp [List.getD, hi])
  have HRL := Lib.hid hrL
  have HLM := Lib.hid hLm
  clear wr w0 hr0 hl0 hr1 hL hrL hLm hm hq hn r0 r1
  go_enter Try.func12, Try.ntmps12
  go_wp2_with (first | (go_at_call 36; refine (awake03 _).mono ?_; rintro e w1 ⟨rfl, hb1⟩) | (at_builtin; refine wpList_app rfl _ _ 66 rfl w.heap.size 3 i0 (.int .i64 0) 8 Try.underlying66 hi hz0 hz1 hz2 rfl _ _ _ rfl (World.ownsRow_made _ #[] 0 hb1.size (by decide) rfl) rfl ((HRL.out.below hb1).below' ((Below.refl _ _).alloc (Nat.le_refl _) _) hb1.size) (iv_one _) ?_ ?_ ?_ ?_))
  · unfold maxLen; omega
  · omega
  · simp; exact Nat.le_succ_of_le hb1.size
  intro v2 w2 hown2 hgrow2
  have hil : List.map (iv L) (List.range m) = il L := by rw [← HLM.out]; exact iv_range L
  rw [hil] at hown2
  have hB2 : Below w.heap.size w w2 := (hb1.alloc hb1.size _).grown hgrow2 (by simp; exact Nat.le_succ_of_le hb1.size) (fun j hj => by simp [Value.ownBlock] at hj; have := hb1.size; omega)
  obtain ⟨a2, c2, rfl⟩ := own_form hown2
  have HR2 := Lib.hid (rd_of_own (f := iv L) hown2 (fun i hi => il_at L (by rw [HLM.out]; exact hi)))
  have HB2 := Lib.hid hB2
  have hs2 : w.heap.size ≤ w2.heap.size := hB2.size
  have ha2 : ∀ x, a2 = some x → x.block < w2.heap.size := fun x hx => (hown2.lt x.block (by rw [hx]; rfl)).2
  have HA2 := Lib.hid ha2
  clear ha2
  clear hown2 hgrow2 hil hB2 hb1 hmn hsl HRL h1 h2
  go_wp2_with fail
  go_at_call 37
  refine (iNew_ok n w2 hn1 (by omega)).mono ?_
  rintro e w3 ⟨ga, ba, rfl, hRa, hga, hba, hB3⟩
  have HA3 := Lib.hid hRa
  have HB3 := Lib.hid (HB2.out.trans (hB3.mono hs2))
  have HRB3 := Lib.hid (HR2.out.below hB3)
  have hga3 := hRa.le.2.2.2.2.2.1
  have hba3 := hRa.le.2.2.2.2.2.2.1
  have hs3 : w2.heap.size ≤ w3.heap.size := hB3.size
  clear hRa hB3
  go_wp2_with fail
  go_at_call 37
  refine (iNew_ok n w3 hn1 (by omega)).mono ?_
  rintro e w4 ⟨gb, bb, rfl, hRb, hgb, hbb, hB4⟩
  have HBR := Lib.hid hRb
  have HA4 := Lib.hid (HA3.out.below hB4 (Nat.le_refl _))
  have HB4 := Lib.hid (HB3.out.trans (hB4.mono (by omega)))
  have HRB4 := Lib.hid (HRB3.out.below (hB4.mono hs3))
  have hgb4 := hRb.le.2.2.2.2.2.1
  have hbb4 := hRb.le.2.2.2.2.2.2.1
  have hs4 : w3.heap.size ≤ w4.heap.size := hB4.size
  clear hRb hB4 HR2 HB2 HRB3 HA3 HB3
  go_wp2
  go_loopw [10, 40] (fun kp i wr => ∃ j : Nat, j ≤ m ∧ i = .int .i64 j ∧ kp = .int .i64 ((min j n : Nat) : Int) ∧ Ring wr ga ba n (L.take (min j n)) 0 (j - n) ∧ Kept ga ba w4 wr) (fun _ i _ => m - (intOf i).toNat)
  case atStart => exact ⟨0, Nat.zero_le _, rfl, by simp, by simpa using HA4.out, Kept.refl _ _ _⟩
  case round =>
    obtain ⟨j, hj, rfl, rfl, hRg, hKp⟩ := hrel
    have hbw : Below w2.heap.size w4 wr := hKp.below hga hba (by omega)
    by_cases hlt : j < m
    · obtain ⟨bL, off, rfl, _, hc⟩ := (HRB4.out.below hbw).at hlt
      unfold iv at hc
      obtain ⟨x, hx⟩ : ∃ x, x = L.getD j 0 := ⟨_, rfl⟩
      rw [← hx] at hc
      have HX := Lib.hid hx
      have HRG := Lib.hid hRg
      have HKP := Lib.hid hKp
      have htl : (L.take (min j n)).length = min j n := by rw [List.length_take, HLM.out]; omega
      clear hx hRg hKp hbw
      by_cases hjn : j < n
      · have e1 : min j n = j := by omega
        have e3 : min (j + 1) n = j + 1 := by omega
        have e2 : L.take (min (j + 1) n) = L.take (min j n) ++ [x] := by rw [e1, e3, takeL_succ L (by rw [HLM.out]; exact hlt), HX.out]
        have hI : ((min j n : Nat) : Int) + 1 = ((min (j + 1) n : Nat) : Int) := by omega
        have hD : j + 1 - n = j - n := by omega
        have hlt2 : (L.take (min j n)).length < n := by rw [htl]; omega
        have H2 := Lib.hid e2
        have HI := Lib.hid hI
        have HD := Lib.hid hD
        have hmj : min j n ≤ 40 := by omega
        obtain ⟨mj, hmj'⟩ : ∃ mj, mj = min j n := ⟨_, rfl⟩
        rw [← hmj'] at hmj HI HRG hlt2 H2
        rw [← hmj']
        clear e1 e2 e3 hI hD htl hmj'
        go_wp2_with fail
        go_at_call 58
        refine (rOffer_room x HRG.out hlt2).mono ?_
        rintro e w5 ⟨rfl, h5, k5⟩
        have H5 := Lib.hid h5
        have K5 := Lib.hid (HKP.out.trans k5)
        clear h5 k5 hc
        go_wp2
        go_roundw
        case rel => exact ⟨j + 1, by omega, by go_num, ret_i HI.out, by rw [H2.out, HD.out]; exact H5.out, K5.out⟩
        case measure => simp [intOf]; omega
      · have e1 : min (j + 1) n = min j n := by omega
        have hD : j + 1 - n = min (j - n + 1) 65535 := by omega
        have hlt2 : (L.take (min j n)).length = n := by rw [htl]; omega
        have H1 := Lib.hid e1
        have HD := Lib.hid hD
        have HL2 := Lib.hid hlt2
        obtain ⟨mj, hmj'⟩ : ∃ mj, mj = min j n := ⟨_, rfl⟩
        rw [← hmj'] at H1 HRG HL2
        rw [← hmj']
        clear e1 hD htl hmj' hlt2
        go_wp2_with fail
        go_at_call 58
        refine (rOffer_full x HRG.out HL2.out).mono ?_
        rintro e w5 ⟨rfl, h5, k5⟩
        have H5 := Lib.hid h5
        have K5 := Lib.hid (HKP.out.trans k5)
        clear h5 k5 hc
        go_wp2
        go_roundw
        case rel => exact ⟨j + 1, by omega, by go_num, by rw [H1.out], by rw [H1.out, HD.out]; exact H5.out, K5.out⟩
        case measure => simp [intOf]; omega
    · obtain rfl : j = m := by omega
      have hRgb := HBR.out.kept hKp (by omega) (by omega) (by omega) (by omega)
      have HRG := Lib.hid hRg
      have HRGB := Lib.hid hRgb
      have HRBr := Lib.hid (HRB4.out.below hbw)
      have HKr := Lib.hid (HB4.out.trans (hKp.below (by omega) (by omega) (by omega)))
      have hsr : w4.heap.size ≤ wr.heap.size := hKp.size
      obtain ⟨kk, hkk⟩ : ∃ kk, kk = min j n := ⟨_, rfl⟩
      obtain ⟨t, ht⟩ : ∃ t, t = j - n := ⟨_, rfl⟩
      obtain ⟨rr, hrr⟩ : ∃ rr, rr = n - kk := ⟨_, rfl⟩
      have hT0 : ([] : List Int).length + j - n = t := by simp; omega
      have hkj : kk ≤ j := by omega
      have htj : t ≤ j := by omega
      have hjk : j - t = kk := by omega
      have htk : (L.take kk).length = kk := by rw [List.length_take, HLM.out]; omega
      have hlk : (lastn n L).length = kk := by rw [lastn_len, HLM.out, hkk]; omega
      have hld : lastn n L = L.drop t := by unfold lastn; rw [HLM.out, ht]
      have hJI : (j : Int) - (kk : Int) = (t : Int) := by omega
      have hNI : (kk : Int) + (rr : Int) = (n : Int) := by omega
      have hMT : min (0 + t) 65535 = t := by omega
      have hmn2 : ∀ w : World, (Builtin.min_ #[3, 3] 3 #[.int .i64 (j : Nat), .int .i64 (n : Nat)]).run Try.prog w = .ok (.int .i64 (kk : Nat)) w := fun w => by
        rw [run_min2, hkk]; congr 2; omega
      rw [← hkk, ← ht] at HRG
      have HT0 := Lib.hid hT0
      have HTK := Lib.hid htk
      have HLK := Lib.hid hlk
      have HLD := Lib.hid hld
      have HRR := Lib.hid hrr
      have HMT := Lib.hid hMT
      have HJK := Lib.hid hjk
      rw [← hkk]
      clear hkk ht hrr hT0 htk hlk hld hMT hjk hRg hRgb hKp hbw
      go_wp2_with fail
      go_at_call 57
      refine (rPush a2 j c2 L HRGB.out HLM.out (HRBr.out.mono (by omega)) (fun x hx => by have := HA2.out x hx; exact ⟨by omega, by omega⟩) (by omega)).mono ?_
      rintro e w5 ⟨rfl, h5, k5⟩
      rw [HT0.out]
      rw [HT0.out, List.nil_append, HMT.out] at h5
      have HB5 := Lib.hid h5
      have HA5 := Lib.hid (HRG.out.kept k5 (by omega) (by omega) (by omega) (by omega))
      have HR5 := Lib.hid (HRBr.out.below (k5.below (B := w2.heap.size) (by omega) (by omega) (by omega)))
      have HW5 := Lib.hid (HKr.out.trans (k5.below (B := w.heap.size) (by omega) (by omega) (by omega)))
      have hs5 : wr.heap.size ≤ w5.heap.size := k5.size
      clear h5 k5 HRG HRGB HRBr HKr
      go_wp2_with fail
      go_at_call 41
      refine (rLen HA5.out).mono ?_
      rintro e w' ⟨rfl, rfl⟩
      rw [HTK.out]
      go_wp2_with fail
      go_at_call 42
      refine (rRoom HA5.out).mono ?_
      rintro e w' ⟨rfl, q6, rfl⟩
      rw [HTK.out, ← HRR.out]
      have hd6 : Below w5.heap.size w5 (w5.drewN q6) := below_drewsI _ _ _
      have HA6 := Lib.hid (HA5.out.below hd6 (Nat.le_refl _))
      have HB6 := Lib.hid (HB5.out.below hd6 (Nat.le_refl _))
      have HR6 := Lib.hid (HR5.out.below (below_drewsI _ w5 q6))
      have HW6 := Lib.hid (HW5.out.trans (below_drewsI _ w5 q6))
      have hs6 : w5.heap.size ≤ (w5.drewN q6).heap.size := hd6.size
      obtain ⟨w6, hw6⟩ : ∃ w6, w6 = w5.drewN q6 := ⟨_, rfl⟩
      rw [← hw6] at HA6 HB6 HR6 HW6 hs6
      rw [← hw6]
      clear hw6 hd6 HA5 HB5 HR5 HW5
      go_wp2_with fail
      go_at_call 41
      refine (rLen HB6.out).mono ?_
      rintro e w' ⟨rfl, rfl⟩
      rw [HLK.out]
      go_wp2_with fail
      go_at_call 42
      refine (rRoom HB6.out).mono ?_
      rintro e w' ⟨rfl, q7, rfl⟩
      rw [HLK.out, ← HRR.out]
      have hd7 : Below w6.heap.size w6 (w6.drewN q7) := below_drewsI _ _ _
      have hA7 := HA6.out.below hd7 (Nat.le_refl _)
      have hB7 := HB6.out.below hd7 (Nat.le_refl _)
      have hR7 := HR6.out.below (below_drewsI _ w6 q7)
      have hW7 := HW6.out.trans (below_drewsI _ w6 q7)
      have hs7 : w6.heap.size ≤ (w6.drewN q7).heap.size := hd7.size
      obtain ⟨w7, hw7⟩ : ∃ w7, w7 = w6.drewN q7 := ⟨_, rfl⟩
      rw [← hw7] at hA7 hB7 hR7 hW7 hs7
      rw [← hw7]
      have HA7 := Lib.hid hA7
      have HB7 := Lib.hid hB7
      have HR7 := Lib.hid hR7
      have HW7 := Lib.hid hW7
      clear hw7 hd7 HA6 HB6 HR6 HW6 hA7 hB7 hR7 hW7
      go_wp2
      have hcap := HR7.out.le
      have hcap2 := HR7.out.top
      unfold maxLen at hcap2
      obtain ⟨A3, hA3⟩ : ∃ A3, A3 = if c2 = t then a2 else a2.map (·.add t) := ⟨_, rfl⟩
      have hsl1 := fun w => run_slice_upto a2 j c2 kk (by omega) w
      have hsl2 := fun w => run_slice_from a2 j c2 t htj w
      rw [← hA3] at hsl2
      rw [HJK.out] at hsl2
      have hR1 := Lib.hid ((HR7.out.first hkj).same (g := iv (L.take kk)) (fun i hi => by unfold iv; simp [List.getD, hi]))
      have hR2 := (HR7.out.rest htj).same (g := iv (L.drop t)) (fun i hi => by unfold iv; simp [List.getD])
      rw [← hA3, HJK.out] at hR2
      have HRT := Lib.hid hR2
      have hdl : (L.drop t).length = kk := by rw [List.length_drop, HLM.out]; exact HJK.out
      have HDL := Lib.hid hdl
      have hJw : IntKind.i64.wrap ((j : Int) - (kk : Int)) = (t : Int) := by rw [hJI]; exact fits64 _ (by omega) (by omega)
      clear hA3 hR2 hdl hmn2 hNI
      obtain ⟨I, W, hne, hWI, hIW⟩ := Go.Mix.family (fun v : World => True) (w := w7) trivial
      have HJ := Lib.hid hIW
      clear hWI hIW
      refine Go.Mix.wp_region (fun w' => ∃ i, w' = W i) (by kernel_rfl) (by kernel_rfl) (HJ.out _ trivial) ?_
      simp only []
      have hd : Below w7.heap.size w7 w7.drew := (Below.refl _ _).drew
      have HA8 := Lib.hid (HA7.out.below hd (Nat.le_refl _))
      have HB8 := Lib.hid (HB7.out.below hd (Nat.le_refl _))
      have HT8 := Lib.hid (hR1.out.below ((Below.refl w2.heap.size w7).drew))
      have HS8 := Lib.hid (HRT.out.below ((Below.refl w2.heap.size w7).drew))
      have HW8 := Lib.hid (HW7.out.trans ((Below.refl w.heap.size w7).drew))
      clear hd
      (repeat (first | (refine Go.Mix.walk_calm rfl ?_ (fun K hK => ?_); (first | exact Go.Mix.wanted_none rfl | exact Go.Mix.wanted_tt rfl rfl rfl | exact Go.Mix.wanted_ff rfl rfl rfl); go_big_quiet_op; refine hK _ ?_; clear hK K) | (refine Go.Mix.walk_skip ?_ (fun K hK => ?_); (first | exact Go.Mix.wanted_tf rfl rfl rfl | exact Go.Mix.wanted_ft rfl rfl rfl); go_simp; refine hK _ ?_; clear hK K) | (refine Go.Mix.walk_loud rfl ?_ (fun K hK => ?_); (first | exact Go.Mix.wanted_none rfl | exact Go.Mix.wanted_tt rfl rfl rfl | exact Go.Mix.wanted_ff rfl rfl rfl); (first | go_big_op | go_simp); (first | (refine hK _ _ trivial ?_; clear hK K) | (fail; (try dsimp only); refine hK _ _ trivial ?_; clear hK K))) | (refine Go.Mix.walk_step (fun K hK => ?_); go_simp; (try (go_ints; try go_simp)); refine hK _ _ ?_; clear hK K)))
      (refine Go.Mix.walk_loud rfl ?_ (fun K hK => ?_); (first | exact Go.Mix.wanted_none rfl | exact Go.Mix.wanted_tt rfl rfl rfl | exact Go.Mix.wanted_ff rfl rfl rfl); (first | go_big_op | go_simp); go_at_call 59; refine (rDrain HA8.out).mono ?_)
      rintro e w8 ⟨v8, rfl, hown8, h8, k8⟩
      obtain ⟨a8, c8, rfl⟩ := own_form hown8
      rw [HTK.out] at hown8 ⊢
      have HD8 := Lib.hid (rd_of_own (f := iv (L.take kk)) hown8 (fun i hi => il_at _ (by rw [HTK.out]; exact hi)))
      have kb8 : Below w2.heap.size w7.drew w8 := k8.below (by omega) (by omega) (by have := HR7.out; simp; omega)
      have HA9 := Lib.hid h8
      have HB9 := Lib.hid (HB8.out.kept k8 (by omega) (by omega) (by omega) (by omega))
      have HT9 := Lib.hid (HT8.out.below kb8)
      have HS9 := Lib.hid (HS8.out.below kb8)
      have HW9 := Lib.hid (HW8.out.trans (k8.below (by omega) (by omega) (by have := HW8.out.size; simp at this ⊢; omega)))
      have hs8 : w7.heap.size ≤ w8.heap.size := by have := k8.size; simpa using this
      clear hown8 h8 k8 kb8 HA8 HB8 HT8 HS8 HW8
      dsimp only
      (refine hK _ _ (HJ.out _ trivial) ?_; clear hK K)
      (repeat (first | (refine Go.Mix.walk_calm rfl ?_ (fun K hK => ?_); (first | exact Go.Mix.wanted_none rfl | exact Go.Mix.wanted_tt rfl rfl rfl | exact Go.Mix.wanted_ff rfl rfl rfl); go_big_quiet_op; refine hK _ ?_; clear hK K) | (refine Go.Mix.walk_skip ?_ (fun K hK => ?_); (first | exact Go.Mix.wanted_tf rfl rfl rfl | exact Go.Mix.wanted_ft rfl rfl rfl); go_simp; refine hK _ ?_; clear hK K) | (refine Go.Mix.walk_loud rfl ?_ (fun K hK => ?_); (first | exact Go.Mix.wanted_none rfl | exact Go.Mix.wanted_tt rfl rfl rfl | exact Go.Mix.wanted_ff rfl rfl rfl); (first | go_big_op | go_simp); (first | (refine hK _ _ trivial ?_; clear hK K) | (fail; (try dsimp only); refine hK _ _ trivial ?_; clear hK K))) | (refine Go.Mix.walk_step (fun K hK => ?_); go_simp; (try (go_ints; try go_simp)); refine hK _ _ ?_; clear hK K)))
      (refine Go.Mix.walk_loud rfl ?_ (fun K hK => ?_); (first | exact Go.Mix.wanted_none rfl | exact Go.Mix.wanted_tt rfl rfl rfl | exact Go.Mix.wanted_ff rfl rfl rfl); (first | go_big_op | go_simp); go_at_call 40; refine (SameI_any _ _ _ _ _ _ _ _ (L.take kk) (L.take kk) _ HTK.out HTK.out HD8.out HT9.out).mono ?_)
      rintro e wa ⟨rfl, qa, rfl⟩
      simp only [decide_true]
      have hda : Below w8.heap.size w8 (w8.drewN qa) := below_drewsI _ _ _
      have HAa := Lib.hid (HA9.out.below hda (Nat.le_refl _))
      have HBa := Lib.hid (HB9.out.below hda (Nat.le_refl _))
      have HSa := Lib.hid (HS9.out.below (below_drewsI _ w8 qa))
      have HWa := Lib.hid (HW9.out.trans (below_drewsI _ w8 qa))
      have hsa : w8.heap.size ≤ (w8.drewN qa).heap.size := hda.size
      obtain ⟨wa, hwa⟩ : ∃ wa, wa = w8.drewN qa := ⟨_, rfl⟩
      rw [← hwa] at HAa HBa HSa HWa hsa
      rw [← hwa]
      clear hwa hda HA9 HB9 HS9 HW9 HD8 HT9
      (refine hK _ _ (HJ.out _ trivial) ?_; clear hK K)
      (repeat (first | (refine Go.Mix.walk_calm rfl ?_ (fun K hK => ?_); (first | exact Go.Mix.wanted_none rfl | exact Go.Mix.wanted_tt rfl rfl rfl | exact Go.Mix.wanted_ff rfl rfl rfl); go_big_quiet_op; refine hK _ ?_; clear hK K) | (refine Go.Mix.walk_skip ?_ (fun K hK => ?_); (first | exact Go.Mix.wanted_tf rfl rfl rfl | exact Go.Mix.wanted_ft rfl rfl rfl); go_simp; refine hK _ ?_; clear hK K) | (refine Go.Mix.walk_loud rfl ?_ (fun K hK => ?_); (first | exact Go.Mix.wanted_none rfl | exact Go.Mix.wanted_tt rfl rfl rfl | exact Go.Mix.wanted_ff rfl rfl rfl); (first | go_big_op | go_simp); (first | (refine hK _ _ trivial ?_; clear hK K) | (fail; (try dsimp only); refine hK _ _ trivial ?_; clear hK K))) | (refine Go.Mix.walk_step (fun K hK => ?_); go_simp; (try (go_ints; try go_simp)); refine hK _ _ ?_; clear hK K)))
      (refine Go.Mix.walk_loud rfl ?_ (fun K hK => ?_); (first | exact Go.Mix.wanted_none rfl | exact Go.Mix.wanted_tt rfl rfl rfl | exact Go.Mix.wanted_ff rfl rfl rfl); (first | go_big_op | go_simp); go_at_call 59; refine (rDrain HBa.out).mono ?_)
      rintro e wb ⟨vb, rfl, hownb, hb2, kb2⟩
      obtain ⟨ab, cb, rfl⟩ := own_form hownb
      rw [HLK.out] at hownb ⊢
      have HDb := Lib.hid (rd_of_own (f := iv (lastn n L)) hownb (fun i hi => il_at _ (by rw [HLK.out]; exact hi)))
      have kbb : Below w2.heap.size wa wb := kb2.below (by omega) (by omega) (by omega)
      have HBb := Lib.hid hb2
      have HAb := Lib.hid (HAa.out.kept kb2 (by omega) (by omega) (by omega) (by omega))
      have HSb := Lib.hid (HSa.out.below kbb)
      have HWb := Lib.hid (HWa.out.trans (kb2.below (by omega) (by omega) (by omega)))
      clear hownb hb2 kb2 kbb HAa HBa HSa HWa
      dsimp only
      (refine hK _ _ (HJ.out _ trivial) ?_; clear hK K)
      (repeat (first | (refine Go.Mix.walk_calm rfl ?_ (fun K hK => ?_); (first | exact Go.Mix.wanted_none rfl | exact Go.Mix.wanted_tt rfl rfl rfl | exact Go.Mix.wanted_ff rfl rfl rfl); go_big_quiet_op; refine hK _ ?_; clear hK K) | (refine Go.Mix.walk_skip ?_ (fun K hK => ?_); (first | exact Go.Mix.wanted_tf rfl rfl rfl | exact Go.Mix.wanted_ft rfl rfl rfl); go_simp; refine hK _ ?_; clear hK K) | (refine Go.Mix.walk_loud rfl ?_ (fun K hK => ?_); (first | exact Go.Mix.wanted_none rfl | exact Go.Mix.wanted_tt rfl rfl rfl | exact Go.Mix.wanted_ff rfl rfl rfl); (first | go_big_op | go_simp); (first | (refine hK _ _ trivial ?_; clear hK K) | (fail; (try dsimp only); refine hK _ _ trivial ?_; clear hK K))) | (refine Go.Mix.walk_step (fun K hK => ?_); go_simp; (try (go_ints; try go_simp)); refine hK _ _ ?_; clear hK K)))
      (refine Go.Mix.walk_loud rfl ?_ (fun K hK => ?_); (first | exact Go.Mix.wanted_none rfl | exact Go.Mix.wanted_tt rfl rfl rfl | exact Go.Mix.wanted_ff rfl rfl rfl); (first | go_big_op | go_simp); go_at_call 40; refine (SameI_any _ _ _ _ _ _ _ _ (lastn n L) (L.drop t) _ HLK.out HDL.out HDb.out HSb.out).mono ?_)
      rintro e wc ⟨rfl, qc, rfl⟩
      rw [HLD.out]
      simp only [decide_true]
      have hdc : Below wb.heap.size wb (wb.drewN qc) := below_drewsI _ _ _
      have HAc := Lib.hid (HAb.out.below hdc (Nat.le_refl _))
      have HBc := Lib.hid (HBb.out.below hdc (Nat.le_refl _))
      have HWc := Lib.hid (HWb.out.trans (below_drewsI _ wb qc))
      obtain ⟨wc, hwc⟩ : ∃ wc, wc = wb.drewN qc := ⟨_, rfl⟩
      rw [← hwc] at HAc HBc HWc
      rw [← hwc]
      clear hwc hdc HAb HBb HSb HWb HDb
      (refine hK _ _ (HJ.out _ trivial) ?_; clear hK K)
      (repeat (first | (refine Go.Mix.walk_calm rfl ?_ (fun K hK => ?_); (first | exact Go.Mix.wanted_none rfl | exact Go.Mix.wanted_tt rfl rfl rfl | exact Go.Mix.wanted_ff rfl rfl rfl); go_big_quiet_op; refine hK _ ?_; clear hK K) | (refine Go.Mix.walk_skip ?_ (fun K hK => ?_); (first | exact Go.Mix.wanted_tf rfl rfl rfl | exact Go.Mix.wanted_ft rfl rfl rfl); go_simp; refine hK _ ?_; clear hK K) | (refine Go.Mix.walk_loud rfl ?_ (fun K hK => ?_); (first | exact Go.Mix.wanted_none rfl | exact Go.Mix.wanted_tt rfl rfl rfl | exact Go.Mix.wanted_ff rfl rfl rfl); (first | go_big_op | go_simp); (first | (refine hK _ _ trivial ?_; clear hK K) | (fail; (try dsimp only); refine hK _ _ trivial ?_; clear hK K))) | (refine Go.Mix.walk_step (fun K hK => ?_); go_simp; (try (go_ints; try go_simp)); refine hK _ _ ?_; clear hK K)))
      (refine Go.Mix.walk_loud rfl ?_ (fun K hK => ?_); (first | exact Go.Mix.wanted_none rfl | exact Go.Mix.wanted_tt rfl rfl rfl | exact Go.Mix.wanted_ff rfl rfl rfl); (first | go_big_op | go_simp); go_at_call 41; refine (rLen HAc.out).mono ?_)
      rintro e w' ⟨rfl, rfl⟩
      dsimp only [List.length_nil]
      (refine hK _ _ (HJ.out _ trivial) ?_; clear hK K)
      (repeat (first | (refine Go.Mix.walk_calm rfl ?_ (fun K hK => ?_); (first | exact Go.Mix.wanted_none rfl | exact Go.Mix.wanted_tt rfl rfl rfl | exact Go.Mix.wanted_ff rfl rfl rfl); go_big_quiet_op; refine hK _ ?_; clear hK K) | (refine Go.Mix.walk_skip ?_ (fun K hK => ?_); (first | exact Go.Mix.wanted_tf rfl rfl rfl | exact Go.Mix.wanted_ft rfl rfl rfl); go_simp; refine hK _ ?_; clear hK K) | (refine Go.Mix.walk_loud rfl ?_ (fun K hK => ?_); (first | exact Go.Mix.wanted_none rfl | exact Go.Mix.wanted_tt rfl rfl rfl | exact Go.Mix.wanted_ff rfl rfl rfl); (first | go_big_op | go_simp); (first | (refine hK _ _ trivial ?_; clear hK K) | (fail; (try dsimp only); refine hK _ _ trivial ?_; clear hK K))) | (refine Go.Mix.walk_step (fun K hK => ?_); go_simp; (try (go_ints; try go_simp)); refine hK _ _ ?_; clear hK K)))
      (refine Go.Mix.walk_loud rfl ?_ (fun K hK => ?_); (first | exact Go.Mix.wanted_none rfl | exact Go.Mix.wanted_tt rfl rfl rfl | exact Go.Mix.wanted_ff rfl rfl rfl); (first | go_big_op | go_simp); go_at_call 41; refine (rLen HBc.out).mono ?_)
      rintro e w' ⟨rfl, rfl⟩
      dsimp only [List.length_nil]
      (refine hK _ _ (HJ.out _ trivial) ?_; clear hK K)
      (repeat (first | (refine Go.Mix.walk_calm rfl ?_ (fun K hK => ?_); (first | exact Go.Mix.wanted_none rfl | exact Go.Mix.wanted_tt rfl rfl rfl | exact Go.Mix.wanted_ff rfl rfl rfl); go_big_quiet_op; refine hK _ ?_; clear hK K) | (refine Go.Mix.walk_skip ?_ (fun K hK => ?_); (first | exact Go.Mix.wanted_tf rfl rfl rfl | exact Go.Mix.wanted_ft rfl rfl rfl); go_simp; refine hK _ ?_; clear hK K) | (refine Go.Mix.walk_loud rfl ?_ (fun K hK => ?_); (first | exact Go.Mix.wanted_none rfl | exact Go.Mix.wanted_tt rfl rfl rfl | exact Go.Mix.wanted_ff rfl rfl rfl); (first | go_big_op | go_simp); (first | (refine hK _ _ trivial ?_; clear hK K) | (fail; (try dsimp only); refine hK _ _ trivial ?_; clear hK K))) | (refine Go.Mix.walk_step (fun K hK => ?_); go_simp; (try (go_ints; try go_simp)); refine hK _ _ ?_; clear hK K)))
      (refine Go.Mix.walk_loud rfl ?_ (fun K hK => ?_); (first | exact Go.Mix.wanted_none rfl | exact Go.Mix.wanted_tt rfl rfl rfl | exact Go.Mix.wanted_ff rfl rfl rfl); (first | go_big_op | go_simp); go_at_call 44; refine (rDropped HAc.out).mono ?_)
      rintro e w' ⟨rfl, rfl⟩
      dsimp only
      (refine hK _ _ (HJ.out _ trivial) ?_; clear hK K)
      (repeat (first | (refine Go.Mix.walk_calm rfl ?_ (fun K hK => ?_); (first | exact Go.Mix.wanted_none rfl | exact Go.Mix.wanted_tt rfl rfl rfl | exact Go.Mix.wanted_ff rfl rfl rfl); go_big_quiet_op; refine hK _ ?_; clear hK K) | (refine Go.Mix.walk_skip ?_ (fun K hK => ?_); (first | exact Go.Mix.wanted_tf rfl rfl rfl | exact Go.Mix.wanted_ft rfl rfl rfl); go_simp; refine hK _ ?_; clear hK K) | (refine Go.Mix.walk_loud rfl ?_ (fun K hK => ?_); (first | exact Go.Mix.wanted_none rfl | exact Go.Mix.wanted_tt rfl rfl rfl | exact Go.Mix.wanted_ff rfl rfl rfl); (first | go_big_op | go_simp); (first | (refine hK _ _ trivial ?_; clear hK K) | (fail; (try dsimp only); refine hK _ _ trivial ?_; clear hK K))) | (refine Go.Mix.walk_step (fun K hK => ?_); go_simp; (try (go_ints; try go_simp)); refine hK _ _ ?_; clear hK K)))
      (refine Go.Mix.walk_loud rfl ?_ (fun K hK => ?_); (first | exact Go.Mix.wanted_none rfl | exact Go.Mix.wanted_tt rfl rfl rfl | exact Go.Mix.wanted_ff rfl rfl rfl); (first | go_big_op | go_simp); go_at_call 43; refine (rLost HBc.out).mono ?_)
      rintro e w' ⟨rfl, rfl⟩
      dsimp only
      (refine hK _ _ (HJ.out _ trivial) ?_; clear hK K)
      (repeat (first | (refine Go.Mix.walk_calm rfl ?_ (fun K hK => ?_); (first | exact Go.Mix.wanted_none rfl | exact Go.Mix.wanted_tt rfl rfl rfl | exact Go.Mix.wanted_ff rfl rfl rfl); go_big_quiet_op; refine hK _ ?_; clear hK K) | (refine Go.Mix.walk_skip ?_ (fun K hK => ?_); (first | exact Go.Mix.wanted_tf rfl rfl rfl | exact Go.Mix.wanted_ft rfl rfl rfl); go_simp; refine hK _ ?_; clear hK K) | (refine Go.Mix.walk_loud rfl ?_ (fun K hK => ?_); (first | exact Go.Mix.wanted_none rfl | exact Go.Mix.wanted_tt rfl rfl rfl | exact Go.Mix.wanted_ff rfl rfl rfl); (first | go_big_op | go_simp); (first | (refine hK _ _ trivial ?_; clear hK K) | (fail; (try dsimp only); refine hK _ _ trivial ?_; clear hK K))) | (refine Go.Mix.walk_step (fun K hK => ?_); go_simp; (try (go_ints; try go_simp)); refine hK _ _ ?_; clear hK K)))
      refine Go.Mix.walk_nil ?_
      go_wp2
      go_ret
      exact ⟨rfl, HWc.out⟩
end Go.Proofs.Ytifjnpmkcgbniaa
