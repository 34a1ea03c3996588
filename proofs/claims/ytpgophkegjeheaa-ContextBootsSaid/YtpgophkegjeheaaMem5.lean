/- Layer 7: Begin, Finish, Fill. -/
import Derived.Test.YtpgophkegjeheaaMem4
namespace Go.Proofs.Ytpgophkegjeheaa
open Go.RowKit Go.Own
set_option linter.unusedVariables false
set_option linter.unusedSimpArgs false
variable {w : World} {B g : Nat} {v : Nat → Value} {ls : Nat → List Nat}

theorem begin_sel (ls : Nat → List Nat) (c : List Nat) : ∀ i, i < 4 → sel4 c (ls 1) (ls 2) c i = upd (upd ls 0 c) 3 c i := by
  intro i hi
  have : i = 0 ∨ i = 1 ∨ i = 2 ∨ i = 3 := by omega
  rcases this with rfl | rfl | rfl | rfl <;> rfl
theorem finish_sel (ls : Nat → List Nat) (c : List Nat) : ∀ i, i < 4 → sel4 (ls 0) c c [] i = upd (upd (upd ls 1 c) 2 c) 3 [] i := by
  intro i hi
  have : i = 0 ∨ i = 1 ∨ i = 2 ∨ i = 3 := by omega
  rcases this with rfl | rfl | rfl | rfl <;> rfl
theorem fill_sel (c d : List Nat) : ∀ i, i < 4 → sel4 c c c [] i = upd (sel4 c c c d) 3 [] i := by
  intro i hi
  have : i = 0 ∨ i = 1 ∨ i = 2 ∨ i = 3 := by omega
  rcases this with rfl | rfl | rfl | rfl <;> rfl
/-- What Begin's second store lays down. -/
theorem put_begin {w0 w1 w : World} {x y : Value} {l : List Nat} {m' : Nat → List Nat} (m0 : MemS w0 B g v ls) (hm : MemS w B g (upd v 0 y) m') (s : MStep g v (upd v 0 y) w0 w) (hx0 : w1.ownsRow w0.heap.size 5 1 x l.length (bl l)) (hy : ∀ b, y.ownBlock = some b → w1.heap.size ≤ b)
    (hx : w.ownsRow w0.heap.size 5 1 x l.length (bl l)) (hbl : bytes l) (hl : l.length ≤ 1000000) : MemS (w.setCell ⟨g, 3, none⟩ x) B g (upd (upd v 0 y) 3 x) (upd m' 3 l) ∧ MStep g v (upd (upd v 0 y) 3 x) w0 (w.setCell ⟨g, 3, none⟩ x) := by
  refine ⟨hm.put (by omega) (World.ownsRow.mono hx (Nat.le_trans m0.base (Nat.le_of_lt m0.lt))) hbl hl (fun j hj hj3 => ?_), s.put (fun b e => (hx.lt b e).1)⟩
  by_cases h0 : j = 0
  · subst h0
    rw [upd_same]
    cases hv : x.ownBlock with
    | none => exact .inl rfl
    | some b =>
      refine .inr (fun e => ?_)
      have h1 := (hx0.lt b hv).2
      have h2 := hy b e.symm
      omega
  · rw [upd_other _ _ h0]
    exact m0.fresh hx j hj
set_option maxRecDepth 100000 in
set_option maxHeartbeats 4000000 in
theorem mBegin (a : Option Addr) (cap n : Nat) (p : List Nat) (h : MemS w B g v ls) (hn : n ≤ w.heap.size) (hr : Rd n w a p.length cap (bv p)) (hb : bytes p) :
    Calls Try.prog 31 #[.pointer (some ⟨g, 0, none⟩), .slice a p.length cap] w fun e w' =>
      (200 < p.length ∧ e = .returned (.int .i64 4) ∧ Below w.heap.size w w') ∨ (p.length ≤ 200 ∧ ls 3 ≠ [] ∧ e = .returned (.int .i64 7) ∧ Below w.heap.size w w') ∨ (p.length ≤ 200 ∧ ls 3 = [] ∧ gtop ls 3 = 4294967295 ∧ e = .returned (.int .i64 6) ∧ Below w.heap.size w w') ∨
      (p.length ≤ 200 ∧ ls 3 = [] ∧ gtop ls 3 < 4294967295 ∧ e = .returned (.int .i64 0) ∧ ∃ v', MemS w' B g v' (sel4 (mkCell (gtop ls 3 + 1) p) (ls 1) (ls 2) (mkCell (gtop ls 3 + 1) p)) ∧ MStep g v v' w w') := by
  have S := Lib.hid (MStep.refl g v w)
  have HN := Lib.hid (mnext a cap n p h hn hr hb)
  have H := Lib.hid h
  have HBP := Lib.hid hb
  clear hr hb h
  go_enter Try.func31, Try.ntmps31
  go_wp2_with fail
  go_at_call 68
  refine HN.out.mono ?_
  rintro e w1 ⟨hb1, ⟨h1, rfl⟩ | ⟨h1, h2, rfl⟩ | ⟨h1, h2, xa, xc, rfl, hown⟩⟩
  · have H1 := Lib.hid h1
    have HB1 := Lib.hid hb1
    clear h1 hb1
    go_wp2
    go_ret
    exact .inl ⟨H1.out, rfl, HB1.out⟩
  · have H1 := Lib.hid h1
    have H2 := Lib.hid h2
    have HB1 := Lib.hid hb1
    clear h1 h2 hb1
    go_wp2_with fail
    go_at_call 39
    refine (mPending (H.out.below HB1.out)).mono ?_
    rintro e w' ⟨rfl, rfl⟩
    by_cases h0 : ls 3 = []
    · have hd : decide (0 < (ls 3).length) = false := by rw [h0]; rfl
      rw [hd]
      have H0 := Lib.hid h0
      clear h0 hd
      go_wp2
      go_ret
      exact .inr (.inr (.inl ⟨H1.out, H0.out, H2.out, rfl, HB1.out⟩))
    · have hd : decide (0 < (ls 3).length) = true := by simp [List.length_pos_iff, h0]
      rw [hd]
      have H0 := Lib.hid h0
      clear h0 hd
      go_wp2
      go_ret
      exact .inr (.inl ⟨H1.out, H0.out, rfl, HB1.out⟩)
  · obtain ⟨c, hc⟩ : ∃ c, c = mkCell (gtop ls 3 + 1) p := ⟨_, rfl⟩
    have hcl : c.length = p.length + 8 := by rw [hc, mkCell_len]
    have hcb : bytes c := by rw [hc]; exact mkCell_bytes HBP.out
    rw [← hc] at hown
    obtain ⟨len, hlen⟩ : ∃ len, len = p.length + 8 := ⟨_, rfl⟩
    have HC := Lib.hid hc
    rw [← hlen] at hcl hown ⊢
    have HLEN := Lib.hid hlen
    have hlm : len ≤ 208 := by omega
    have H1 := Lib.hid h1
    have H2 := Lib.hid h2
    have HB1 := Lib.hid hb1
    have HL := Lib.hid hcl
    have HCB := Lib.hid hcb
    have HO := Lib.hid hown
    clear h1 h2 hb1 hcl hcb hown hc hlen
    go_wp2_with fail
    go_at_call 39
    refine (mPending (H.out.below HB1.out)).mono ?_
    rintro e w' ⟨rfl, rfl⟩
    by_cases h0 : ls 3 = []
    · have hd : decide (0 < (ls 3).length) = false := by rw [h0]; rfl
      rw [hd]
      have H0 := Lib.hid h0
      clear h0 hd
      go_wp2
      have hR := rd_of_own (f := bv c) HO.out (fun i hi => bl_at c (by rw [HL.out]; exact hi))
      have HR := Lib.hid hR
      clear hR
      obtain ⟨I, W, hne, hWI, hIW⟩ := Go.Mix.family (fun v => Below w1.heap.size w1 v) (Below.refl _ _)
      have HJ := Lib.hid hIW
      have HW := Lib.hid hWI
      clear hWI hIW
      refine Go.Flo.wp_region (fun w' => ∃ i, w' = W i) 6 [SpO w1.heap.size c] (by kernel_rfl) (by kernel_rfl) (by decide) (by rintro _ w' ⟨i, rfl⟩ hb; exact HJ.out _ ((HW.out i).trans (hb.mono (HW.out i).size))) (HJ.out _ (Below.refl _ _).drew) ?_
      simp only [Go.Flo.pair, Go.Mix.calm, List.take, List.drop, if_true, Bool.false_eq_true, if_false, Nat.reduceAdd, Nat.reduceSub]
      (repeat (first | (refine Go.Flo.fw_calm rfl ?_ (fun K hK => ?_); (first | exact Go.Mix.wanted_none rfl | exact Go.Mix.wanted_tt rfl rfl rfl | exact Go.Mix.wanted_ff rfl rfl rfl); go_big_quiet_op; refine hK _ ?_; clear hK K) | (refine Go.Flo.fw_skip ?_ (fun K hK => ?_); (first | exact Go.Mix.wanted_tf rfl rfl rfl | exact Go.Mix.wanted_ft rfl rfl rfl); go_simp; refine hK _ ?_; clear hK K) | (refine Go.Flo.fw_any rfl ?_ (fun K hK => ?_); (first | exact Go.Mix.wanted_none rfl | exact Go.Mix.wanted_tt rfl rfl rfl | exact Go.Mix.wanted_ff rfl rfl rfl); go_simp; (try (go_ints; try go_simp)); refine hK _ ?_; clear hK K)))
      refine Go.Flo.fw_loud rfl ?_ rfl (by simp) (fun wv hwv hav K hK => ?_) (fun x hx K hK => ?_)
      · (first | exact Go.Mix.wanted_none rfl | exact Go.Mix.wanted_tt rfl rfl rfl | exact Go.Mix.wanted_ff rfl rfl rfl)
      · obtain ⟨iv, rfl⟩ := hwv
        have hbv := HW.out iv
        (first | go_big_op | go_simp)
        go_at_call 71
        refine (Clone_any xa len xc w1.heap.size c _ hbv.size HL.out (HR.out.below hbv) (by omega)).mono ?_
        rintro e w' ⟨x, rfl, hown, hbb⟩
        exact hK _ _ (owes_O HL.out rfl hbb hown hbv.size)
      obtain ⟨a9, c9, rfl⟩ := ex_O hx
      go_simp
      refine hK _ ?_
      clear hK K hx
      (repeat (first | (refine Go.Flo.fw_calm rfl ?_ (fun K hK => ?_); (first | exact Go.Mix.wanted_none rfl | exact Go.Mix.wanted_tt rfl rfl rfl | exact Go.Mix.wanted_ff rfl rfl rfl); go_big_quiet_op; refine hK _ ?_; clear hK K) | (refine Go.Flo.fw_skip ?_ (fun K hK => ?_); (first | exact Go.Mix.wanted_tf rfl rfl rfl | exact Go.Mix.wanted_ft rfl rfl rfl); go_simp; refine hK _ ?_; clear hK K) | (refine Go.Flo.fw_any rfl ?_ (fun K hK => ?_); (first | exact Go.Mix.wanted_none rfl | exact Go.Mix.wanted_tt rfl rfl rfl | exact Go.Mix.wanted_ff rfl rfl rfl); go_simp; (try (go_ints; try go_simp)); refine hK _ ?_; clear hK K)))
      refine Go.Flo.fw_nil ?_
      intro w2 hww2 hfw2 huw2
      obtain ⟨iend, hiend⟩ := hww2
      have hbw2 := HW.out iend
      rw [← hiend] at hbw2
      clear hiend iend huw2
      have hown := ((hfw2 (some 28)).1.1.1.2 rfl).1
      have hM1 := H.out.below HB1.out
      have f2 := (hM1.below hbw2).f 0
      have c2 := (hM1.below hbw2).c0
      have P2 := put_fresh (i := 0) hM1 (S.out.then_below HB1.out) hbw2 (by omega) hown HCB.out (by rw [HL.out]; omega)
      have O2 := own_past (i := 0) (x := .slice a9 c.length c9) hM1 hbw2 HO.out
      have A2 := fun b e => (hown.lt b e).1
      have HP2 := Lib.hid P2
      have HO2 := Lib.hid O2
      have HA2 := Lib.hid A2
      clear hfw2 HJ HW hne hown hbw2 HR P2 O2 A2 hM1
      clear W I
      refine Go.Flo.tw_step ?_ (fun K hK => ?_)
      · (first | exact Go.Mix.wanted_none rfl | exact Go.Mix.wanted_tt rfl rfl rfl | exact Go.Mix.wanted_ff rfl rfl rfl)
      (first | go_big_op | go_simp)
      refine hK _ _ ?_
      clear hK K
      refine Go.Flo.tw_nil ?_
      obtain ⟨w3, hw3⟩ : ∃ w3, w3 = w2.setCell ⟨g, 0, none⟩ (.slice a9 c.length c9) := ⟨_, rfl⟩
      rw [← hw3]
      have P := HP2.out
      have O := HO2.out
      rw [← hw3] at P O
      have f3 := P.1.f 3
      have hO1 := HO.out
      rw [← HL.out] at hO1 O
      have Q := put_begin H.out P.1 P.2 hO1 HA2.out O HCB.out (by rw [HL.out]; omega)
      rw [HL.out] at Q
      have HQ := Lib.hid Q
      have c3 := P.1.c3
      obtain ⟨a3, cc3, e3, _⟩ := P.1.rd (i := 3) (by omega)
      rw [e3] at c3
      clear P O hO1 Q hw3 f2 c2 HP2 HO2 HA2 e3
      go_wp2
      go_ret
      refine .inr (.inr (.inr ⟨H1.out, H0.out, H2.out, rfl, _, ?_, HQ.out.2⟩))
      rw [← HC.out]
      exact HQ.out.1.congr (begin_sel _ _)
    · have hd : decide (0 < (ls 3).length) = true := by simp [List.length_pos_iff, h0]
      rw [hd]
      have H0 := Lib.hid h0
      clear h0 hd
      go_wp2
      go_ret
      exact .inr (.inl ⟨H1.out, H0.out, rfl, HB1.out⟩)
set_option maxRecDepth 100000 in
set_option maxHeartbeats 4000000 in
theorem mFill (a : Option Addr) (cap n : Nat) (p : List Nat) (h : MemS w B g v ls) (hn : n ≤ w.heap.size) (hr : Rd n w a p.length cap (bv p)) (hb : bytes p) :
    Calls Try.prog 29 #[.pointer (some ⟨g, 0, none⟩), .slice a p.length cap] w fun e w' =>
      (200 < p.length ∧ e = .returned (.int .i64 4) ∧ Below w.heap.size w w') ∨ (p.length ≤ 200 ∧ gtop ls 3 = 4294967295 ∧ e = .returned (.int .i64 6) ∧ Below w.heap.size w w') ∨
      (p.length ≤ 200 ∧ gtop ls 3 < 4294967295 ∧ e = .returned (.int .i64 0) ∧ ∃ v', MemS w' B g v' (sel4 (mkCell (gtop ls 3 + 1) p) (mkCell (gtop ls 3 + 1) p) (mkCell (gtop ls 3 + 1) p) []) ∧ MStep g v v' w w') := by
  have S := Lib.hid (MStep.refl g v w)
  have HN := Lib.hid (mnext a cap n p h hn hr hb)
  have H := Lib.hid h
  have HBP := Lib.hid hb
  clear hr hb h
  go_enter Try.func29, Try.ntmps29
  go_wp2_with fail
  go_at_call 68
  refine HN.out.mono ?_
  rintro e w1 ⟨hb1, ⟨h1, rfl⟩ | ⟨h1, h2, rfl⟩ | ⟨h1, h2, xa, xc, rfl, hown⟩⟩
  · have H1 := Lib.hid h1
    have HB1 := Lib.hid hb1
    clear h1 hb1
    go_wp2
    go_ret
    exact .inl ⟨H1.out, rfl, HB1.out⟩
  · have H1 := Lib.hid h1
    have H2 := Lib.hid h2
    have HB1 := Lib.hid hb1
    clear h1 h2 hb1
    go_wp2
    go_ret
    exact .inr (.inl ⟨H1.out, H2.out, rfl, HB1.out⟩)
  · obtain ⟨c, hc⟩ : ∃ c, c = mkCell (gtop ls 3 + 1) p := ⟨_, rfl⟩
    have hcl : c.length = p.length + 8 := by rw [hc, mkCell_len]
    have hcb : bytes c := by rw [hc]; exact mkCell_bytes HBP.out
    rw [← hc] at hown
    obtain ⟨len, hlen⟩ : ∃ len, len = p.length + 8 := ⟨_, rfl⟩
    have HC := Lib.hid hc
    rw [← hlen] at hcl hown ⊢
    have hlm : len ≤ 1000000 := by omega
    have hset := mset w.heap.size xa len xc c (H.out.below hb1) hcl hown hcb hlm
    have HS := Lib.hid hset
    have H1 := Lib.hid h1
    have H2 := Lib.hid h2
    have HB1 := Lib.hid hb1
    clear h1 h2 hb1 hcl hcb hown hc hlen hset
    go_wp2_with fail
    go_at_call 69
    refine HS.out.mono ?_
    rintro e w2 ⟨⟨u, rfl⟩, v2, hv3, hm2, hs2⟩
    have HM2 := Lib.hid hm2
    have S2 := Lib.hid ((S.out.then_below HB1.out).trans hs2)
    clear hm2 hs2 hv3
    go_wp2_with fail
    go_at_call 70
    refine (mReset HM2.out).mono ?_
    rintro e w3 ⟨⟨u, rfl⟩, hm3, hs3⟩
    have HM3 := Lib.hid hm3
    have S3 := Lib.hid (S2.out.trans hs3)
    clear hm3 hs3
    go_wp2
    go_ret
    refine .inr (.inr ⟨H1.out, H2.out, rfl, _, ?_, S3.out⟩)
    rw [← HC.out]
    exact HM3.out.congr (fill_sel _ _)
end Go.Proofs.Ytpgophkegjeheaa
