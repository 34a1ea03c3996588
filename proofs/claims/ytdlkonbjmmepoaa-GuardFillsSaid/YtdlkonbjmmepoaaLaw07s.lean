/- GuardScrubs: what a scrub leaves. -/
import Derived.Test.YtdlkonbjmmepoaaMem8
namespace Go.Proofs.Ytdlkonbjmmepoaa
open Go.RowKit Go.Own
set_option linter.unusedVariables false
set_option linter.unusedSimpArgs false

theorem wrap_small (x : Nat) (h : x ≤ 108) : wrap64 (x : Int) = (x : Int) := by unfold wrap64; omega
theorem three_cases {x : Nat} (h : x < 3) : x = 0 ∨ x = 1 ∨ x = 2 := by omega
theorem one_bad {C D : List Nat} {x : Nat} (hx : x < 3) (hC : perr C = 0) (hD : perr D ≠ 0) :
    2 ≤ (vst (upd (sel4 C C C []) x D) 3).1 ∧ best (upd (sel4 C C C []) x D) = C ∧ dcount (upd (sel4 C C C []) x D) C 3 = 1 := by
  have hne : D ≠ C := fun e => hD (by rw [e]; exact hC)
  have h2 : (vst (upd (sel4 C C C []) x D) 3).1 = 2 := by
    rcases three_cases hx with rfl | rfl | rfl <;> simp [vst_cnt, vst, upd, sel4, hC, hD]
  refine ⟨by omega, ?_, ?_⟩
  · obtain ⟨h3, h4⟩ := best_ok (ls := upd (sel4 C C C []) x D) (by omega)
    unfold best at h4 ⊢
    obtain ⟨q, hq⟩ : ∃ q, q = (vst (upd (sel4 C C C []) x D) 3).2 := ⟨_, rfl⟩
    rw [← hq] at h3 h4 ⊢
    by_cases e : q = x
    · subst e; rw [upd_same] at h4; exact absurd h4 hD
    · rw [upd_other _ _ e]
      rcases three_cases h3 with rfl | rfl | rfl <;> rfl
  · rcases three_cases hx with rfl | rfl | rfl <;> simp [dcount, upd, sel4, hne]
theorem two_good {C D : List Nat} {x : Nat} (hx : x < 3) (hC : perr C = 0) : 2 ≤ (vst (upd (sel4 C C C []) x D) 3).1 := by
  by_cases hD : perr D = 0
  · have : (vst (upd (sel4 C C C []) x D) 3).1 = 3 := by
      rcases three_cases hx with rfl | rfl | rfl <;> simp [vst_cnt, vst, upd, sel4, hC, hD]
    omega
  · exact (one_bad hx hC hD).1
theorem two_bad {C D E : List Nat} {x y : Nat} (hx : x < 3) (hy : y < 3) (hxy : x ≠ y) (hC : perr C = 0) (hD : perr D ≠ 0) (hE : perr E ≠ 0) : (vst (upd (upd (sel4 C C C []) x D) y E) 3).1 = 1 := by
  rcases three_cases hx with rfl | rfl | rfl <;> rcases three_cases hy with rfl | rfl | rfl <;> first | (exact absurd rfl hxy) | simp [vst_cnt, vst, upd, sel4, hC, hD, hE]
theorem all_good {C : List Nat} (hC : perr C = 0) : 2 ≤ (vst (sel4 C C C []) 3).1 ∧ best (sel4 C C C []) = C ∧ dcount (sel4 C C C []) C 3 = 0 := by
  have h2 : (vst (sel4 C C C []) 3).1 = 3 := by simp [vst_cnt, vst, sel4, hC]
  refine ⟨by omega, ?_, by simp [dcount, sel4]⟩
  obtain ⟨h3, _⟩ := best_ok (ls := sel4 C C C []) (by omega)
  unfold best
  rcases three_cases h3 with h | h | h <;> rw [h] <;> rfl
theorem sel_upd (C : List Nat) (D : List Nat) {x y : Nat} (hx : x < 3) (hy : y < 3) (h : y ≠ x) : upd (sel4 C C C []) x D y = C := by
  rw [upd_other _ _ h]
  rcases three_cases hy with rfl | rfl | rfl <;> rfl
theorem sel_at (C : List Nat) {x : Nat} (hx : x < 3) : sel4 C C C [] x = C := by rcases three_cases hx with rfl | rfl | rfl <;> rfl
theorem box_lt_of {w : World} {p : Addr} {v : Value} (h : w.cell? p = some v) : p.block < w.heap.size := World.block_lt_of_cell? w _ h
theorem Rows3.below {w w' : World} {n0 c : Nat} {x : Option Addr} {pa : Nat → Option Addr} {pc : Nat → Nat} {ls : Nat → List Nat} (h : Rows3 w n0 x c pa pc ls) (hb : Below w.heap.size w w') : Rows3 w' n0 x c pa pc ls :=
  ⟨own_keep h.out hb, fun i hi => own_keep (h.inn i hi) hb⟩
theorem Rows3.cells {w : World} {n0 c : Nat} {x : Option Addr} {pa : Nat → Option Addr} {pc : Nat → Nat} {ls : Nat → List Nat} (h : Rows3 w n0 x c pa pc ls) :
    ∃ g cap, Value.slice x 3 c = .slice (some ⟨g, 0, none⟩) 3 cap ∧ w.cell? ⟨g, 0, none⟩ = some (.slice (pa 0) (ls 0).length (pc 0)) ∧ w.cell? ⟨g, 1, none⟩ = some (.slice (pa 1) (ls 1).length (pc 1)) ∧ w.cell? ⟨g, 2, none⟩ = some (.slice (pa 2) (ls 2).length (pc 2)) := by
  obtain ⟨g, cap, e, _⟩ := own_some h.out (by omega)
  have ho := h.out
  rw [e] at ho
  exact ⟨g, cap, e, ho.cellAt 0 (by omega), ho.cellAt 1 (by omega), ho.cellAt 2 (by omega)⟩
theorem upd_upd {α : Type} (f : Nat → α) (i : Nat) (x y : α) : upd (upd f i x) i y = upd f i y := by funext j; unfold upd; split <;> rfl
set_option maxRecDepth 100000 in
set_option maxHeartbeats 8000000 in
theorem walk_GuardScrubs (a0 : Option Addr) (len0 cap0 : Nat) (z0 : List Int) (a1 a2 a3 a4 : Int) (w : World) (w0 : IsRow .u8 w a0 len0 cap0 z0) (w1 : (Lit.int .u8 a1).wf = true) (w2 : (Lit.int .u8 a2).wf = true) (w3 : (Lit.int .u16 a3).wf = true) (w4 : (Lit.int .u16 a4).wf = true) :
    Calls Try.prog 4 #[.slice a0 len0 cap0, .int .u8 a1, .int .u8 a2, .int .u16 a3, .int .u16 a4] w fun e w' => e = .returned (.bool true) ∧ Below w.heap.size w w' := by
  obtain ⟨l, hl, hb, hr⟩ := isRow_rd w0
  obtain ⟨r10, r11⟩ := bounds_u8 w1
  obtain ⟨r20, r21⟩ := bounds_u8 w2
  obtain ⟨r30, r31⟩ := bounds_u16 w3
  obtain ⟨r40, r41⟩ := bounds_u16 w4
  obtain ⟨a, rfl⟩ := Int.eq_ofNat_of_zero_le r10
  obtain ⟨b, rfl⟩ := Int.eq_ofNat_of_zero_le r20
  obtain ⟨at_, rfl⟩ := Int.eq_ofNat_of_zero_le r30
  obtain ⟨to, rfl⟩ := Int.eq_ofNat_of_zero_le r40
  have hle := hr.le
  have htop := hr.top
  unfold maxLen at htop
  obtain ⟨m, hm⟩ : ∃ m, m = min 100 len0 := ⟨_, rfl⟩
  obtain ⟨L, hL⟩ : ∃ L, L = l.take 100 := ⟨_, rfl⟩
  have hLm : L.length = m := by rw [hL, List.length_take, hl, hm]
  have hLb : bytes L := by rw [hL]; exact hb.take _
  have hm100 : m ≤ 100 := by omega
  obtain ⟨C, hC⟩ : ∃ C, C = mkCell 1 L := ⟨_, rfl⟩
  have hCl : C.length = m + 8 := by rw [hC, mkCell_len, hLm]
  have hCb : bytes C := by rw [hC]; exact mkCell_bytes hLb
  have hCe : perr C = 0 := by rw [hC]; exact mkCell_err _ _ (by omega)
  have hCd : pdat C = L := by rw [hC]; exact mkCell_dat _ _
  -- numbers
  obtain ⟨x, hx⟩ : ∃ x, x = a % 3 := ⟨_, rfl⟩
  obtain ⟨y, hy⟩ : ∃ y, y = b % 3 := ⟨_, rfl⟩
  have hx3 : x < 3 := by omega
  have hy3 : y < 3 := by omega
  have hxI : (a : Int) % 3 = (x : Int) := by omega
  have hyI : (b : Int) % 3 = (y : Int) := by omega
  obtain ⟨m8, hm8⟩ : ∃ m8, m8 = m + 8 := ⟨_, rfl⟩
  obtain ⟨n, hn⟩ : ∃ n, n = 8 * m8 := ⟨_, rfl⟩
  have e1 : (m : Int) + 8 = (m8 : Int) := by omega
  have e2 : 8 * (m8 : Int) = (n : Int) := by omega
  obtain ⟨i, hi⟩ : ∃ i, i = at_ % n := ⟨_, rfl⟩
  obtain ⟨j, hj⟩ : ∃ j, j = to % n := ⟨_, rfl⟩
  have hin : i < n := by rw [hi]; exact Nat.mod_lt _ (by omega)
  have hjn : j < n := by rw [hj]; exact Nat.mod_lt _ (by omega)
  have e3 : (at_ : Int).tmod (n : Int) = (i : Int) := by rw [hi]; rfl
  have e4 : (at_ : Int) % (n : Int) = (i : Int) := by rw [hi]; simp
  have e5 : (to : Int).tmod (n : Int) = (j : Int) := by rw [hj]; rfl
  have e6 : (to : Int) % (n : Int) = (j : Int) := by rw [hj]; simp
  have e7 : ((n : Int) == 0) = false := by rw [beq_eq_false_iff_ne]; omega
  obtain ⟨di, hdi⟩ : ∃ di, di = i / 8 := ⟨_, rfl⟩
  obtain ⟨ri, hri⟩ : ∃ ri, ri = i % 8 := ⟨_, rfl⟩
  obtain ⟨dj, hdj⟩ : ∃ dj, dj = j / 8 := ⟨_, rfl⟩
  obtain ⟨rj, hrj⟩ : ∃ rj, rj = j % 8 := ⟨_, rfl⟩
  have f1 : (i : Int) / 8 = (di : Int) := by omega
  have f2 : (i : Int) % 8 = (ri : Int) := by omega
  have f3 : (j : Int) / 8 = (dj : Int) := by omega
  have f4 : (j : Int) % 8 = (rj : Int) := by omega
  have hti : 2 ^ ri < 256 := by rw [hri]; exact pow8_lt i
  have htj : 2 ^ rj < 256 := by rw [hrj]; exact pow8_lt j
  obtain ⟨ti, hti'⟩ : ∃ t, t = 2 ^ ri := ⟨_, rfl⟩
  obtain ⟨tj, htj'⟩ : ∃ t, t = 2 ^ rj := ⟨_, rfl⟩
  have g1 : IntKind.u8.wrap ((2 : Int) ^ ri) = (ti : Int) := pow_u8 hti hti'
  have g2 : IntKind.u8.wrap ((2 : Int) ^ rj) = (tj : Int) := pow_u8 htj htj'
  rw [← hti'] at hti
  rw [← htj'] at htj
  have hti0 : ti ≠ 0 := by rw [hti']; exact Nat.ne_of_gt (Nat.pow_pos (by decide))
  have htj0 : tj ≠ 0 := by rw [htj']; exact Nat.ne_of_gt (Nat.pow_pos (by decide))
  have hdi2 : di < C.length := by omega
  have hdj2 : dj < C.length := by omega
  have hD : perr (turnL C di ti) ≠ 0 := turned_err hCb hCe hdi2 hti0 hti
  have hE : perr (turnL C dj tj) ≠ 0 := turned_err hCb hCe hdj2 htj0 htj
  have hw1 := wrap_small di (by rw [hCl] at hdi2; exact Nat.le_trans (Nat.le_of_lt hdi2) (Nat.add_le_add_right hm100 8))
  have hw2 := wrap_small dj (by rw [hCl] at hdj2; exact Nat.le_trans (Nat.le_of_lt hdj2) (Nat.add_le_add_right hm100 8))
  have HW1 := Lib.hid hw1
  have HW2 := Lib.hid hw2
  clear hw1 hw2
  have HB := Lib.hid hb
  have HR := Lib.hid hr
  have HL := Lib.hid hl
  have HLm := Lib.hid hLm
  have HLb := Lib.hid hLb
  have HLL := Lib.hid hL
  have HMM := Lib.hid hm
  have HC := Lib.hid hC
  have HCl := Lib.hid hCl
  have HCb := Lib.hid hCb
  have HCe := Lib.hid hCe
  have HCd := Lib.hid hCd
  have HD := Lib.hid hD
  have HE := Lib.hid hE
  have HI := Lib.hid hdi2
  have HJ2 := Lib.hid hdj2
  clear hb hr hl hLm hLb hL hm hC hCl hCb hCe hCd hD hE hdi2 hdj2 hi hj hdi hri hdj hrj hti' htj' hti0 htj0 w0 w1 w2 w3 w4 hn hm8 hin hjn hx hy
  go_enter Try.func4, Try.ntmps4
  go_wp2_with fail
  go_at_call 15
  refine (awake07 w).mono ?_
  rintro e w1 ⟨rfl, hb1⟩
  have B1 := Lib.hid hb1
  clear hb1
  go_wp2_with fail
  go_at_call 17
  refine (Cut_any a0 len0 cap0 l 100 w1 HL.out ((HR.out.below B1.out).mono B1.out.size) (by omega)).mono ?_
  rintro e w2 ⟨xv, rfl, hown, hb2⟩
  rw [← HMM.out, ← HLL.out] at hown
  obtain ⟨p, pc, rfl⟩ := own_form hown
  have B2 := Lib.hid (B1.out.trans (hb2.mono B1.out.size))
  have P2 := Lib.hid hown
  clear hb2 hown B1
  go_wp2_with fail
  go_at_call 16
  refine (mNew w2).mono ?_
  rintro e w3 ⟨rfl, hm3, hb3⟩
  obtain ⟨g, hg⟩ : ∃ g, g = w2.heap.size := ⟨_, rfl⟩
  rw [← hg] at hm3 ⊢
  have HG : w.heap.size ≤ g := by rw [hg]; exact B2.out.size
  have B3 := Lib.hid (B2.out.trans (hb3.mono B2.out.size))
  have M3 := Lib.hid hm3
  have P3 := Lib.hid (own_keep P2.out hb3)
  have O3 : Off g noV (.slice p m pc) := fun k hk => ⟨fun e => by have := (P2.out.lt k hk).2; omega, fun i hi e => by simp [noV, Value.ownBlock] at e⟩
  have HO3 := Lib.hid O3
  clear hb3 hm3 hg O3 B2 P2
  go_wp2_with fail
  go_at_call 18
  have hF := mFill p pc w3.heap.size L M3.out (Nat.le_refl _) (by rw [HLm.out]; exact rd_of_own P3.out (fun i hi => bl_at L (by rw [HLm.out]; exact hi))) HLb.out
  rw [HLm.out] at hF
  refine hF.mono ?_
  rintro e w4 (⟨h, _⟩ | ⟨_, h, _⟩ | ⟨_, _, rfl, v4, hm4, hs4⟩)
  · omega
  · rw [gtop_no] at h; exact absurd h (by decide)
  rw [gtop_no, show mkCell (0 + 1) L = C from HC.out.symm] at hm4
  have B4 := Lib.hid (B3.out.trans ((hs4.below M3.out).mono HG))
  have M4 := Lib.hid hm4
  obtain ⟨hp4, ho4⟩ := hs4.row P3.out HO3.out
  have P4 := Lib.hid hp4
  have HO4 := Lib.hid ho4
  clear hF hm4 hs4 hp4 ho4 M3 P3 HO3 B3
  go_wp2
  go_quiet (fail)
  all_goals go_wp2_with fail
  go_at_call 20
  rw [HW1.out]
  have hq4 := below_drews w4.heap.size w4 nq
  obtain ⟨w5, hw5⟩ : ∃ w5, w5 = w4.drewN nq := ⟨_, rfl⟩
  rw [← hw5] at hq4 ⊢
  have e5s : sel4 C C C [] x = C := sel_at C hx3
  refine (mFlip x di ti (M4.out.below hq4) hx3 (by rw [e5s]; exact HI.out) hti).mono ?_
  rintro e w6 ⟨rfl, hm6, hs6⟩
  rw [e5s] at hm6
  have hP5 := own_keep P4.out hq4
  obtain ⟨hp6, ho6⟩ := hs6.row hP5 HO4.out
  have B6 := Lib.hid ((B4.out.trans (hq4.mono B4.out.size)).trans ((hs6.below (M4.out.below hq4)).mono HG))
  have M6 := Lib.hid hm6
  have P6 := Lib.hid hp6
  have HO6 := Lib.hid ho6
  clear hq4 hw5 hm6 hs6 hP5 hp6 ho6 e5s M4 B4 P4 HO4
  obtain ⟨k1, k2, k3⟩ := one_bad (x := x) hx3 HCe.out HD.out
  go_wp2_with fail
  go_at_call 26
  refine (mScrub M6.out).mono ?_
  rintro e w7 (⟨h, _⟩ | ⟨_, h, _⟩ | ⟨_, _, rfl, v7, hv7, hm7, hs7⟩)
  · exact absurd (by rw [upd_other _ _ (by omega)]; rfl) h
  · omega
  rw [k2] at hm7 ⊢
  rw [k3]
  have B7 := Lib.hid (B6.out.trans ((hs7.below M6.out).mono HG))
  have M7 := Lib.hid (hm7.congr (ls' := sel4 C C C []) (fun i hi => by
    have : upd (sel4 C C C []) x (turnL C di ti) 3 = [] := by rw [upd_other _ _ (by omega)]; rfl
    rw [this]))
  obtain ⟨hp7, ho7⟩ := hs7.row P6.out HO6.out
  have P7 := Lib.hid hp7
  have HO7 := Lib.hid ho7
  clear hm7 hs7 hv7 hp7 ho7 k1 k2 k3 M6 B6 P6 HO6
  obtain ⟨k1, k2, k3⟩ := all_good HCe.out
  go_wp2_with fail
  go_at_call 26
  refine (mScrub M7.out).mono ?_
  rintro e w8 (⟨h, _⟩ | ⟨_, h, _⟩ | ⟨_, _, rfl, v8, hv8, hm8, hs8⟩)
  · exact absurd rfl h
  · omega
  rw [k2] at hm8 ⊢
  rw [k3]
  have B8 := Lib.hid (B7.out.trans ((hs8.below M7.out).mono HG))
  have M8 := Lib.hid (hm8.congr (ls' := sel4 C C C []) (fun i hi => rfl))
  obtain ⟨hp8, ho8⟩ := hs8.row P7.out HO7.out
  have P8 := Lib.hid hp8
  have HO8 := Lib.hid ho8
  clear hm8 hs8 hv8 hp8 ho8 k3 M7 B7 P7 HO7
  go_wp2_with fail
  go_at_call 24
  refine (mRead M8.out).mono ?_
  rintro e w9 ⟨hb9, ⟨h, _⟩ | ⟨_, q, qc, rfl, hown⟩⟩
  · omega
  have hbb : sel4 C C C [] (vst (sel4 C C C []) 3).2 = C := k2
  rw [hbb, HCd.out, HLm.out] at hown
  rw [hbb, HCd.out, HLm.out]
  have B9 := Lib.hid (B8.out.trans (hb9.mono B8.out.size))
  have M9 := Lib.hid (M8.out.below hb9)
  have P9 := own_keep P8.out hb9
  have hsame := Same_any q p m m qc pc w9.heap.size w9.heap.size L L w9 HLm.out HLm.out (rd_of_own hown (fun i hi => bl_at L (by rw [HLm.out]; exact hi))) (rd_of_own P9 (fun i hi => bl_at L (by rw [HLm.out]; exact hi))) HLb.out HLb.out
  rw [decide_eq_true (rfl : L = L)] at hsame
  have HSM := Lib.hid hsame
  clear hsame hown hbb k1 k2 hb9 P9 M8 B8 P8 HO8
  go_wp2_with fail
  go_at_call 25
  refine HSM.out.mono ?_
  rintro e w' ⟨rfl, nj, rfl⟩
  have hq9 := below_drews w9.heap.size w9 nj
  obtain ⟨wa, hwa⟩ : ∃ wa, wa = w9.drewN nj := ⟨_, rfl⟩
  rw [← hwa] at hq9 ⊢
  have Ba := Lib.hid (B9.out.trans (hq9.mono B9.out.size))
  have Ma := Lib.hid (M9.out.below hq9)
  clear hq9 hwa M9 B9 HSM
  go_wp2_with fail
  go_at_call 20
  rw [HW1.out]
  have e5s : sel4 C C C [] x = C := sel_at C hx3
  refine (mFlip x di ti Ma.out hx3 (by rw [e5s]; exact HI.out) hti).mono ?_
  rintro e wb ⟨rfl, hmb, hsb⟩
  rw [e5s] at hmb
  have Bb := Lib.hid (Ba.out.trans ((hsb.below Ma.out).mono HG))
  have Mb := Lib.hid hmb
  clear hmb hsb e5s Ma Ba
  by_cases hxy : y = x
  · subst hxy
    go_wp2_with fail
    go_at_call 20
    rw [HW2.out]
    have e6s : upd (sel4 C C C []) y (turnL C di ti) y = turnL C di ti := upd_same _ _ _
    refine (mFlip y dj tj Mb.out hx3 (by rw [e6s, turnL_len]; exact HJ2.out) htj).mono ?_
    rintro e wc ⟨rfl, hmc, hsc⟩
    rw [e6s, upd_upd] at hmc
    have Bc := Lib.hid (Bb.out.trans ((hsc.below Mb.out).mono HG))
    have Mc := Lib.hid hmc
    clear hmc hsc e6s Mb Bb
    go_wp2_with fail
    go_at_call 29
    refine (mCopies Mc.out).mono ?_
    rintro e wd ⟨xw, cw, pw, kw, rfl, hrow, hbd⟩
    have Bd := Lib.hid (Bc.out.trans (hbd.mono Bc.out.size))
    have Md := Lib.hid (Mc.out.below hbd)
    clear hrow hbd Mc Bc
    have k1 := two_good (x := y) (D := turnL (turnL C di ti) dj tj) hx3 HCe.out
    go_wp2_with fail
    go_at_call 26
    refine (mScrub Md.out).mono ?_
    rintro e we (⟨h, _⟩ | ⟨_, h, _⟩ | ⟨_, _, rfl, ve, hve, hme, hse⟩)
    · exact absurd (by rw [upd_other _ _ (by omega)]; rfl) h
    · omega
    have Be := Lib.hid (Bd.out.trans ((hse.below Md.out).mono HG))
    obtain ⟨kk, hkk⟩ : ∃ kk, kk = dcount (upd (sel4 C C C []) y (turnL (turnL C di ti) dj tj)) (best (upd (sel4 C C C []) y (turnL (turnL C di ti) dj tj))) 3 := ⟨_, rfl⟩
    rw [← hkk]
    clear hme hse hve k1 hkk Md Bd
    go_wp2
    go_ret
    exact ⟨rfl, Be.out⟩
  · have hyx : ((x : Int) == (y : Int)) = false := by rw [beq_eq_false_iff_ne]; omega
    go_wp2_with fail
    go_at_call 20
    rw [HW2.out]
    have e6s : upd (sel4 C C C []) x (turnL C di ti) y = C := sel_upd C _ hx3 hy3 hxy
    refine (mFlip y dj tj Mb.out hy3 (by rw [e6s]; exact HJ2.out) htj).mono ?_
    rintro e wc ⟨rfl, hmc, hsc⟩
    rw [e6s] at hmc
    have Bc := Lib.hid (Bb.out.trans ((hsc.below Mb.out).mono HG))
    have k1 := two_bad hx3 hy3 (fun e => hxy e.symm) HCe.out HD.out HE.out
    have k0 : upd (upd (sel4 C C C []) x (turnL C di ti)) y (turnL C dj tj) 3 = [] := by rw [upd_other _ _ (by omega), upd_other _ _ (by omega)]; rfl
    obtain ⟨LS, hLS⟩ : ∃ LS, LS = upd (upd (sel4 C C C []) x (turnL C di ti)) y (turnL C dj tj) := ⟨_, rfl⟩
    rw [← hLS] at hmc k1 k0
    have Mc := Lib.hid hmc
    have K0 := Lib.hid k0
    have K1 := Lib.hid k1
    clear hmc hsc e6s Mb Bb hLS k0 k1
    go_wp2_with fail
    go_at_call 29
    refine (mCopies Mc.out).mono ?_
    rintro e wd ⟨xw, cw, pw, kw, rfl, hrow, hbd⟩
    have Bd := Lib.hid (Bc.out.trans (hbd.mono Bc.out.size))
    have Md := Lib.hid (Mc.out.below hbd)
    have Rd1 := Lib.hid hrow
    clear hrow hbd Mc Bc
    go_wp2_with fail
    go_at_call 26
    refine (mScrub Md.out).mono ?_
    rintro e we (⟨h, _⟩ | ⟨_, h, rfl, hbe⟩ | ⟨_, h, _⟩)
    · exact absurd K0.out h
    · have Be := Lib.hid (Bd.out.trans (hbe.mono Bd.out.size))
      have Me := Lib.hid (Md.out.below hbe)
      have Re := Lib.hid (Rd1.out.below hbe)
      clear hbe Md Bd Rd1 h
      go_wp2_with fail
      go_at_call 29
      refine (mCopies Me.out).mono ?_
      rintro e wf ⟨yw, dw, pv, kv, rfl, hrow, hbf⟩
      have Bf := Lib.hid (Be.out.trans (hbf.mono Be.out.size))
      have hR1 := Re.out.below hbf
      obtain ⟨gx, cx, ex, x0, x1, x2⟩ := hR1.cells
      obtain ⟨gy, cy, ey, y0, y1, y2⟩ := hrow.cells
      injection ex with ex1 ex2 ex3
      injection ey with ey1 ey2 ey3
      subst ex1 ex3 ey1 ey3
      have hS := fun (i : Nat) (hi : i < 3) (wz : World) (hz : Below wf.heap.size wf wz) => Same_any (pw i) (pv i) (LS i).length (LS i).length (kw i) (kv i) wf.heap.size wf.heap.size (LS i) (LS i) wz rfl rfl ((rd_of_own (hR1.inn i hi) (fun j hj => bl_at _ hj)).below hz) ((rd_of_own (hrow.inn i hi) (fun j hj => bl_at _ hj)).below hz) (Me.out.byt i (by omega)) (Me.out.byt i (by omega))
      simp only [decide_true] at hS
      have hgx := box_lt_of x0
      have hgy := box_lt_of y0
      have HS := Lib.hid hS
      clear hS hrow hR1 hbf Me Re Be ex2 ey2 e1 e2 e3 e4 e5 e6 e7 f1 f2 f3 f4 g1 g2 hyx
      go_wp2
      obtain ⟨I, W, hne, hWI, hIW⟩ := Go.Mix.family (fun v => Below wf.heap.size wf v) (Below.refl _ _)
      have HJ := Lib.hid hIW
      have HW := Lib.hid hWI
      clear hWI hIW
      refine Go.Flo.wp_region (fun w' => ∃ i, w' = W i) 30 [Go.Flo.Spec.is (.bool true), Go.Flo.Spec.is (.bool true), Go.Flo.Spec.is (.bool true)] (by kernel_rfl) (by kernel_rfl) (by decide) (by rintro _ w' ⟨i, rfl⟩ hb; exact HJ.out _ ((HW.out i).trans (hb.mono (HW.out i).size))) (HJ.out _ (Below.refl _ _).drew) ?_
      simp only [Go.Flo.pair, Go.Mix.calm, List.take, List.drop, if_true, Bool.false_eq_true, if_false, Nat.reduceAdd, Nat.reduceSub]
      have x0 : ∀ i, (W i).cell? ⟨gx, 0, none⟩ = some (.slice (pw 0) (LS 0).length (kw 0)) := fun i => ((HW.out i).cell hgx).trans x0
      have x1 : ∀ i, (W i).cell? ⟨gx, 1, none⟩ = some (.slice (pw 1) (LS 1).length (kw 1)) := fun i => ((HW.out i).cell hgx).trans x1
      have x2 : ∀ i, (W i).cell? ⟨gx, 2, none⟩ = some (.slice (pw 2) (LS 2).length (kw 2)) := fun i => ((HW.out i).cell hgx).trans x2
      have y0 : ∀ i, (W i).cell? ⟨gy, 0, none⟩ = some (.slice (pv 0) (LS 0).length (kv 0)) := fun i => ((HW.out i).cell hgy).trans y0
      have y1 : ∀ i, (W i).cell? ⟨gy, 1, none⟩ = some (.slice (pv 1) (LS 1).length (kv 1)) := fun i => ((HW.out i).cell hgy).trans y1
      have y2 : ∀ i, (W i).cell? ⟨gy, 2, none⟩ = some (.slice (pv 2) (LS 2).length (kv 2)) := fun i => ((HW.out i).cell hgy).trans y2
      (repeat (first | (refine Go.Flo.fw_calm rfl ?_ (fun K hK => ?_); (first | exact Go.Mix.wanted_none rfl | exact Go.Mix.wanted_tt rfl rfl rfl | exact Go.Mix.wanted_ff rfl rfl rfl); go_big_quiet_op; refine hK _ ?_; clear hK K) | (refine Go.Flo.fw_skip ?_ (fun K hK => ?_); (first | exact Go.Mix.wanted_tf rfl rfl rfl | exact Go.Mix.wanted_ft rfl rfl rfl); go_simp; refine hK _ ?_; clear hK K) | (refine Go.Flo.fw_any rfl ?_ (fun K hK => ?_); (first | exact Go.Mix.wanted_none rfl | exact Go.Mix.wanted_tt rfl rfl rfl | exact Go.Mix.wanted_ff rfl rfl rfl); go_simp; (try (go_ints; try go_simp)); refine hK _ ?_; clear hK K)))
      refine Go.Flo.fw_loud rfl ?_ rfl (by simp) (fun wv hwv hav K hK => ?_) (fun v hv K hK => ?_)
      · (first | exact Go.Mix.wanted_none rfl | exact Go.Mix.wanted_tt rfl rfl rfl | exact Go.Mix.wanted_ff rfl rfl rfl)
      · obtain ⟨iv, rfl⟩ := hwv
        have hbv := HW.out iv
        (first | go_big_op | go_simp)
        go_at_call 25
        refine (HS.out 0 (by omega) _ hbv).mono ?_
        rintro e w' ⟨rfl, q, rfl⟩
        exact hK _ _ (Go.Flo.owes_is _ rfl (below_drews _ _ _))
      obtain rfl := hv.is
      go_simp
      refine hK _ ?_
      clear hK K hv
      (repeat (first | (refine Go.Flo.fw_calm rfl ?_ (fun K hK => ?_); (first | exact Go.Mix.wanted_none rfl | exact Go.Mix.wanted_tt rfl rfl rfl | exact Go.Mix.wanted_ff rfl rfl rfl); go_big_quiet_op; refine hK _ ?_; clear hK K) | (refine Go.Flo.fw_skip ?_ (fun K hK => ?_); (first | exact Go.Mix.wanted_tf rfl rfl rfl | exact Go.Mix.wanted_ft rfl rfl rfl); go_simp; refine hK _ ?_; clear hK K) | (refine Go.Flo.fw_any rfl ?_ (fun K hK => ?_); (first | exact Go.Mix.wanted_none rfl | exact Go.Mix.wanted_tt rfl rfl rfl | exact Go.Mix.wanted_ff rfl rfl rfl); go_simp; (try (go_ints; try go_simp)); refine hK _ ?_; clear hK K)))
      refine Go.Flo.fw_loud rfl ?_ rfl (by simp) (fun wv hwv hav K hK => ?_) (fun v hv K hK => ?_)
      · (first | exact Go.Mix.wanted_none rfl | exact Go.Mix.wanted_tt rfl rfl rfl | exact Go.Mix.wanted_ff rfl rfl rfl)
      · obtain ⟨iv, rfl⟩ := hwv
        have hbv := HW.out iv
        (first | go_big_op | go_simp)
        go_at_call 25
        refine (HS.out 1 (by omega) _ hbv).mono ?_
        rintro e w' ⟨rfl, q, rfl⟩
        exact hK _ _ (Go.Flo.owes_is _ rfl (below_drews _ _ _))
      obtain rfl := hv.is
      go_simp
      refine hK _ ?_
      clear hK K hv
      (repeat (first | (refine Go.Flo.fw_calm rfl ?_ (fun K hK => ?_); (first | exact Go.Mix.wanted_none rfl | exact Go.Mix.wanted_tt rfl rfl rfl | exact Go.Mix.wanted_ff rfl rfl rfl); go_big_quiet_op; refine hK _ ?_; clear hK K) | (refine Go.Flo.fw_skip ?_ (fun K hK => ?_); (first | exact Go.Mix.wanted_tf rfl rfl rfl | exact Go.Mix.wanted_ft rfl rfl rfl); go_simp; refine hK _ ?_; clear hK K) | (refine Go.Flo.fw_any rfl ?_ (fun K hK => ?_); (first | exact Go.Mix.wanted_none rfl | exact Go.Mix.wanted_tt rfl rfl rfl | exact Go.Mix.wanted_ff rfl rfl rfl); go_simp; (try (go_ints; try go_simp)); refine hK _ ?_; clear hK K)))
      refine Go.Flo.fw_loud rfl ?_ rfl (by simp) (fun wv hwv hav K hK => ?_) (fun v hv K hK => ?_)
      · (first | exact Go.Mix.wanted_none rfl | exact Go.Mix.wanted_tt rfl rfl rfl | exact Go.Mix.wanted_ff rfl rfl rfl)
      · obtain ⟨iv, rfl⟩ := hwv
        have hbv := HW.out iv
        (first | go_big_op | go_simp)
        go_at_call 25
        refine (HS.out 2 (by omega) _ hbv).mono ?_
        rintro e w' ⟨rfl, q, rfl⟩
        exact hK _ _ (Go.Flo.owes_is _ rfl (below_drews _ _ _))
      obtain rfl := hv.is
      go_simp
      refine hK _ ?_
      clear hK K hv
      (repeat (first | (refine Go.Flo.fw_calm rfl ?_ (fun K hK => ?_); (first | exact Go.Mix.wanted_none rfl | exact Go.Mix.wanted_tt rfl rfl rfl | exact Go.Mix.wanted_ff rfl rfl rfl); go_big_quiet_op; refine hK _ ?_; clear hK K) | (refine Go.Flo.fw_skip ?_ (fun K hK => ?_); (first | exact Go.Mix.wanted_tf rfl rfl rfl | exact Go.Mix.wanted_ft rfl rfl rfl); go_simp; refine hK _ ?_; clear hK K) | (refine Go.Flo.fw_any rfl ?_ (fun K hK => ?_); (first | exact Go.Mix.wanted_none rfl | exact Go.Mix.wanted_tt rfl rfl rfl | exact Go.Mix.wanted_ff rfl rfl rfl); go_simp; (try (go_ints; try go_simp)); refine hK _ ?_; clear hK K)))
      refine Go.Flo.fw_nil ?_
      intro wy hwwy hfwy huwy
      refine Go.Flo.tw_nil ?_
      obtain ⟨iend, hiend⟩ := hwwy
      have hbwy := HW.out iend
      rw [← hiend] at hbwy
      clear hiend iend huwy
      clear hfwy HJ HW hne x0 x1 x2 y0 y1 y2
      clear W I
      go_wp2
      go_ret
      exact ⟨rfl, Bf.out.trans (hbwy.mono Bf.out.size)⟩
    · rw [K1.out] at h; omega
end Go.Proofs.Ytdlkonbjmmepoaa
