/- PlantLife: units that are ordered on, acknowledge, and are well, work from then on, till they are ordered off. -/
import Derived.Test.YtkgeeohgfbacaaaLaw14p
import Derived.Test.YtkgeeohgfbacaaaPlY
import Derived.Test.YtkgeeohgfbacaaaPlL
import Derived.Test.YtkgeeohgfbacaaaFlo3
namespace Go.Proofs.Ytkgeeohgfbacaaa
open Go.RowKit Go.Own
set_option linter.unusedVariables false
set_option linter.unusedSimpArgs false
theorem pow_m {m : Nat} (h : m ≤ 16) : 2 ^ m - 1 < 65536 := by
  have := Nat.pow_le_pow_right (show 0 < 2 by decide) h
  simp at this
  omega
theorem shl_m {m : Nat} (h : m ≤ 16) : IntKind.u16.wrap (IntKind.u16.wrap ((2 : Int) ^ m) - 1) = ((2 ^ m - 1 : Nat) : Int) := by
  have : m = 0 ∨ m = 1 ∨ m = 2 ∨ m = 3 ∨ m = 4 ∨ m = 5 ∨ m = 6 ∨ m = 7 ∨ m = 8 ∨ m = 9 ∨ m = 10 ∨ m = 11 ∨ m = 12 ∨ m = 13 ∨ m = 14 ∨ m = 15 ∨ m = 16 := by omega
  rcases this with rfl | rfl | rfl | rfl | rfl | rfl | rfl | rfl | rfl | rfl | rfl | rfl | rfl | rfl | rfl | rfl | rfl <;> (rw [IntKind.wrap_u16, IntKind.wrap_u16]; decide)
set_option maxRecDepth 100000 in
set_option maxHeartbeats 8000000 in
theorem walk_PlantLife (a0 : Option Addr) (len0 cap0 : Nat) (a2 : Option Addr) (len2 cap2 : Nat) (z2 : List Int) (a4 : Int) (w : World) (w0 : IsFlat [.int .u8, .int .u8] w a0 len0 cap0) (w2 : IsRow .i64 w a2 len2 cap2 z2) (w4 : (Lit.int .u8 a4).wf = true) :
    Calls Try.prog 7 #[.slice a0 len0 cap0, .slice a2 len2 cap2, .int .u8 a4] w fun e w' => e = .returned (.bool true) ∧ Below w.heap.size w w' := by
  obtain ⟨p0, p1⟩ := bounds_u8 w4
  obtain ⟨nn, rfl⟩ := Int.eq_ofNat_of_zero_le p0
  obtain ⟨m, hm⟩ : ∃ m, m = min len0 16 := ⟨_, rfl⟩
  obtain ⟨wt, tol, hrl, hb1, hb2⟩ := rls_flat w0 (m := m) (by omega)
  obtain ⟨l0, hl0, hrd0⟩ := ints_in w2
  obtain ⟨n2, hn2⟩ : ∃ m, m = min len2 20 := ⟨_, rfl⟩
  obtain ⟨l, hl⟩ : ∃ l, l = l0.take n2 := ⟨_, rfl⟩
  have hll : l.length = n2 := by rw [hl]; simp; omega
  have hrd : Rd w.heap.size w a2 n2 cap2 (Bs.iv l) := (hrd0.first (by omega)).same fun i hi => by
    unfold Bs.iv
    rw [hl]
    simp [List.getD, List.getElem?_take, hi]
  have hm16 : m ≤ 16 := by omega
  have hn20 : n2 ≤ 20 := by omega
  have hmc : m ≤ cap0 := hrl.le
  have hnc : n2 ≤ cap2 := hrd.le
  have ht0 := hrl.top
  have ht2 := hrd.top
  unfold maxLen at ht0 ht2
  have h02 : len0 ≤ cap0 ∧ len2 ≤ cap2 := ⟨w0.1, hrd0.le⟩
  obtain ⟨h0c, h2c⟩ := h02
  have hmn1 := fun (w : World) => run_minJ (P := Try.prog) #[3, 3] 3 .i64 (len0 : Int) 16 w
  have hmn2 := fun (w : World) => run_minJ (P := Try.prog) #[3, 3] 3 .i64 (len2 : Int) 20 w
  rw [show min (len0 : Int) 16 = ((m : Nat) : Int) by omega] at hmn1
  rw [show min (len2 : Int) 20 = ((n2 : Nat) : Int) by omega] at hmn2
  have hs1 := slR_upto a0 len0 cap0 m hmc
  have hs2 := slI_upto a2 len2 cap2 n2 hnc
  obtain ⟨P0, hP0⟩ : ∃ p, p = Pl.part m wt tol m := ⟨_, rfl⟩
  have hok0 : P0.Ok := by rw [hP0]; exact part_ok hm16 hb1 hb2
  have hlife := life_new (show P0.n = m by rw [hP0]; rfl) hok0 (fun j => by rw [hP0]; rfl) l
  obtain ⟨f, hf⟩ : ∃ f, f = (fun j : Nat => decide ((j : Int) ∈ l)) := ⟨_, rfl⟩
  rw [← hf] at hlife
  obtain ⟨P1, hP1⟩ : ∃ p, p = (ordAll true P0 l).1 := ⟨_, rfl⟩
  rw [← hP1] at hlife
  obtain ⟨ofl, hofl⟩ : ∃ x, x = Bs.withS 0 l := ⟨_, rfl⟩
  obtain ⟨x, hx⟩ : ∃ x, x = setN f m := ⟨_, rfl⟩
  have hwant : ofl &&& (2 ^ m - 1) = x := by rw [hofl, hx, hf]; exact want_is l hm16
  have hofl2 : ofl < 65536 := by rw [hofl]; exact Bs.withS_lt (by decide) l
  have hxl : x < 65536 := by rw [hx]; exact setN_lt f m
  have HRL := Lib.hid hrl
  have HRD := Lib.hid hrd
  have HLL := Lib.hid hll
  have HP0 := Lib.hid hP0
  have HOK0 := Lib.hid hok0
  have HLF := Lib.hid hlife
  have HWT := Lib.hid (And.intro hofl (And.intro hx hwant))
  have HP1 := Lib.hid hP1
  clear w0 w2 w4 hm hn2 hl hl0 hrd0 hrl hrd hll hb1 hb2 hok0 hP0 hP1 hlife hofl hx hwant hf
  go_enter Try.func7, Try.ntmps7
  go_wp2_with fail
  go_at_call 41
  refine (awake14 _).mono ?_
  rintro e wb ⟨rfl, hb1⟩
  have HB1 := Lib.hid hb1
  have HRLb := Lib.hid (HRL.out.below hb1 (Nat.le_refl _))
  clear hb1 HRL
  go_wp2_with fail
  go_at_call 42
  have hcall := pNew_ok a0 m cap0 wt tol wb HRLb.out hm16
  rw [← HP0.out] at hcall
  with_reducible refine hcall.mono ?_
  clear hcall
  rintro e wc ⟨rfl, hb2⟩
  have HB2 := Lib.hid (HB1.out.trans (hb2.mono HB1.out.size))
  have HPN := PlB.new wc P0
  clear hb2 HB1 HRLb hmn1 hs1
  go_upto_region 6 with (refine wpList_store_row rfl 95 _ _ rfl _ (Pl.cs _) rfl rfl 95 _ (heap_alloc_new wc (.cells (Pl.empty 0).cs 95)) (size_pl _) (by simp only [Pl.size]) (Pl.one _) ?_; rw [World.setRow_alloc_new]; (try go_simp))
  obtain ⟨gp, hgp⟩ : ∃ g, g = wc.heap.size := ⟨_, rfl⟩
  obtain ⟨wd, hwd⟩ : ∃ wd, wd = wc.alloc (.cells P0.cs 95) := ⟨_, rfl⟩
  have HBD := Lib.hid (show Below w.heap.size w wd by rw [hwd]; exact HB2.out.alloc HB2.out.size _)
  have HGP := Lib.hid (show w.heap.size ≤ gp by rw [hgp]; exact HB2.out.size)
  rw [← hwd, ← hgp] at HPN
  rw [← hwd, ← hgp]
  clear hwd hgp HB2
  go_wp2_with (refine wpList_load_row rfl 95 _ rfl _ rfl _ _ _ _ HPN Try.underlying95 rfl (by exact size_pl _) ?_; (try go_simp))
  go_at_call 43
  have hcall := pOrder P0 true a2 n2 cap2 l wd HOK0.out.n HLL.out ((HRD.out.below HBD.out).mono HBD.out.size) (by omega)
  rw [← HP1.out] at hcall
  with_reducible refine hcall.mono ?_
  clear hcall
  rintro e w1 ⟨v, rfl, hown1, hb⟩
  obtain ⟨va1, vc1, rfl⟩ := own_form2 hown1
  have HPN1 := HPN.below hb (Nat.le_refl _)
  have HPN2 : PlB (w1.setRow gp P1.cs) gp P1 := setRow_heap _ _ _ _ _ _ HPN1
  have HB1 := Lib.hid (bel_row (HBD.out.trans (hb.mono HBD.out.size)) HGP.out P1.cs)
  clear hb hown1 HPN HBD HOK0 HP0 HP1
  go_upto_region 9 with (first | (refine wpList_store_row rfl 95 _ _ rfl _ (Pl.cs _) rfl rfl 95 _ HPN1 (size_pl _) (by simp only [Pl.size]) (Pl.one _) ?_; (try go_simp)) | (refine wpList_load_row rfl 95 _ rfl _ rfl _ _ _ _ HPN2 Try.underlying95 rfl (by exact size_pl _) ?_; (try go_simp)))
  obtain ⟨we, hwe⟩ : ∃ we, we = w1.setRow gp P1.cs := ⟨_, rfl⟩
  rw [← hwe] at HPN2 HB1 ⊢
  clear hwe HPN1
  obtain ⟨I, W, hne, hWI, hIW⟩ := Go.Mix.family (fun v => Below we.heap.size we v) (Below.refl _ _)
  have HJ := Lib.hid hIW
  have HW := Lib.hid hWI
  clear hWI hIW
  refine Go.Flo.wp_region (fun w' => ∃ i, w' = W i) 8 [Go.Flo.Spec.is (.int .u16 (ofl : Nat)), Go.Flo.Spec.is (.int .u16 (x : Nat))] (by kernel_rfl) (by kernel_rfl) (by decide) (by rintro _ w' ⟨i, rfl⟩ hb; exact HJ.out _ ((HW.out i).trans (hb.mono (HW.out i).size))) (HJ.out _ (Below.refl _ _).drew) ?_
  simp only [Go.Flo.pair, Go.Mix.calm, List.take, List.drop, if_true, Bool.false_eq_true, if_false, Nat.reduceAdd, Nat.reduceSub]
  (repeat (first | (refine Go.Flo.fw_calm rfl ?_ (fun K hK => ?_); (first | exact Go.Mix.wanted_none rfl | exact Go.Mix.wanted_tt rfl rfl rfl | exact Go.Mix.wanted_ff rfl rfl rfl); go_big_quiet_op; refine hK _ ?_; clear hK K) | (refine Go.Flo.fw_skip ?_ (fun K hK => ?_); (first | exact Go.Mix.wanted_tf rfl rfl rfl | exact Go.Mix.wanted_ft rfl rfl rfl); go_simp; refine hK _ ?_; clear hK K) | (refine Go.Flo.fw_any rfl ?_ (fun K hK => ?_); (first | exact Go.Mix.wanted_none rfl | exact Go.Mix.wanted_tt rfl rfl rfl | exact Go.Mix.wanted_ff rfl rfl rfl); go_simp; (try (go_ints; try go_simp)); refine hK _ ?_; clear hK K)))
  refine Go.Flo.fw_loud rfl ?_ rfl (by simp) (fun wv hwv hav K hK => ?_) (fun v hv K hK => ?_)
  · (first | exact Go.Mix.wanted_none rfl | exact Go.Mix.wanted_tt rfl rfl rfl | exact Go.Mix.wanted_ff rfl rfl rfl)
  · obtain ⟨iv, rfl⟩ := hwv
    have hbv := HW.out iv
    (first | go_big_op | go_simp)
    go_at_call 44
    refine (Of_any a2 n2 cap2 _ l _ HLL.out (Nat.le_refl _) ((HRD.out.below (HB1.out.trans (hbv.mono HB1.out.size))).mono (HB1.out.trans (hbv.mono HB1.out.size)).size)).mono ?_
    rintro e w' ⟨rfl, hb⟩
    rw [← HWT.out.1]
    exact hK _ _ (Go.Flo.owes_is _ rfl hb)
  obtain rfl := hv.is
  go_simp
  refine hK _ ?_
  clear hK K hv
  (repeat (first | (refine Go.Flo.fw_calm rfl ?_ (fun K hK => ?_); (first | exact Go.Mix.wanted_none rfl | exact Go.Mix.wanted_tt rfl rfl rfl | exact Go.Mix.wanted_ff rfl rfl rfl); go_big_quiet_op; refine hK _ ?_; clear hK K) | (refine Go.Flo.fw_skip ?_ (fun K hK => ?_); (first | exact Go.Mix.wanted_tf rfl rfl rfl | exact Go.Mix.wanted_ft rfl rfl rfl); go_simp; refine hK _ ?_; clear hK K) | (refine Go.Flo.fw_any rfl ?_ (fun K hK => ?_); (first | exact Go.Mix.wanted_none rfl | exact Go.Mix.wanted_tt rfl rfl rfl | exact Go.Mix.wanted_ff rfl rfl rfl); go_simp; (try (go_ints; try go_simp)); refine hK _ ?_; clear hK K)))
  rw [shl_m hm16]
  refine Go.Flo.fw_loud rfl ?_ rfl (by simp) (fun wv hwv hav K hK => ?_) (fun v hv K hK => ?_)
  · (first | exact Go.Mix.wanted_none rfl | exact Go.Mix.wanted_tt rfl rfl rfl | exact Go.Mix.wanted_ff rfl rfl rfl)
  · obtain ⟨iv, rfl⟩ := hwv
    have hbv := HW.out iv
    (first | go_big_op | go_simp)
    go_at_call 45
    refine (Bs.And_any ofl (2 ^ m - 1) _ hofl2 (pow_m hm16)).mono ?_
    rintro e w' ⟨rfl, rfl⟩
    rw [HWT.out.2.2]
    exact hK _ _ (Go.Flo.owes_is _ rfl (Below.refl _ _))
  obtain rfl := hv.is
  go_simp
  refine hK _ ?_
  clear hK K hv
  (repeat (first | (refine Go.Flo.fw_calm rfl ?_ (fun K hK => ?_); (first | exact Go.Mix.wanted_none rfl | exact Go.Mix.wanted_tt rfl rfl rfl | exact Go.Mix.wanted_ff rfl rfl rfl); go_big_quiet_op; refine hK _ ?_; clear hK K) | (refine Go.Flo.fw_skip ?_ (fun K hK => ?_); (first | exact Go.Mix.wanted_tf rfl rfl rfl | exact Go.Mix.wanted_ft rfl rfl rfl); go_simp; refine hK _ ?_; clear hK K) | (refine Go.Flo.fw_any rfl ?_ (fun K hK => ?_); (first | exact Go.Mix.wanted_none rfl | exact Go.Mix.wanted_tt rfl rfl rfl | exact Go.Mix.wanted_ff rfl rfl rfl); go_simp; (try (go_ints; try go_simp)); refine hK _ ?_; clear hK K)))
  refine Go.Flo.fw_nil ?_
  intro wg hwwg hfwg huwg
  refine Go.Flo.tw_nil ?_
  obtain ⟨iend, hiend⟩ := hwwg
  have hbwg := HW.out iend
  rw [← hiend] at hbwg
  clear hiend iend huwg
  have HPN3 := HPN2.below hbwg (Nat.le_refl _)
  have HB2 := Lib.hid (HB1.out.trans (hbwg.mono HB1.out.size))
  clear hfwg HJ HW hne hbwg HPN2 HB1
  clear W I
  have hpow := pPowered P1 wg (fun k => decide ((P1.u k).s = 1) || decide ((P1.u k).s = 2)) x (by rw [HLF.out.n, HLF.out.pow (.inl rfl), ← HWT.out.2.1]) HLF.out.ok.n (fun k s l b e => by rw [e])
  have HPW := Lib.hid hpow
  clear hpow
  go_wp2_with (refine wpList_load_row rfl 95 _ rfl _ rfl _ _ _ _ HPN3 Try.underlying95 rfl (by exact size_pl _) ?_; (try go_simp))
  go_at_call 46
  refine HPW.out.mono ?_
  rintro e w2 ⟨rfl, hb⟩
  have HPN4 := HPN3.below hb (Nat.le_refl _)
  have HB3 := Lib.hid (HB2.out.trans (hb.mono HB2.out.size))
  have HWK := Lib.hid (pWorks P1 w2 (fun k => (P1.u k).s == 2) 0 (by rw [HLF.out.n, HLF.out.wk1]) HLF.out.ok.n (fun k s l b e => by rw [e]))
  clear hb HPN3 HB2 HPW
  go_wp2_with (refine wpLoadW (by (first | exact Go.Mix.wanted_none rfl | exact Go.Mix.wanted_tt rfl rfl rfl | exact Go.Mix.wanted_ff rfl rfl rfl)) 95 _ rfl _ rfl _ _ _ _ HPN4 Try.underlying95 rfl (size_pl _) ?_; (try go_simp))
  go_at_call 47
  refine HWK.out.mono ?_
  rintro e w3 ⟨rfl, hb⟩
  have HPN5 := HPN4.below hb (Nat.le_refl _)
  have HB4 := Lib.hid (HB3.out.trans (hb.mono HB3.out.size))
  clear hb HPN4 HB3 HWK
  go_wp2_with fail
  obtain ⟨N, hN⟩ : ∃ N : Nat, N = 1 + nn % 20 := ⟨_, rfl⟩
  have hN1 : 1 ≤ N := by omega
  have hN2 : N ≤ 20 := by omega
  rw [show (1 : Int) + (nn : Int) % 20 = ((N : Nat) : Int) from by omega]
  have HLF1 := Lib.hid HLF.out
  clear hN
  go_loopw [57] (fun i wr => ∃ (k : Nat) (P : Pl) (c : Int), k ≤ N ∧ i = .int .i64 (k : Nat) ∧ LifeS c P m f ∧ (c = 1 ∨ c = 2) ∧ (0 < k → c = 2) ∧ PlB wr gp P ∧ Below w.heap.size w wr) (fun i _ => N - (intOf i).toNat)
  case atStart => exact ⟨0, P1, 1, Nat.zero_le _, rfl, HLF1.out, .inl rfl, fun h => absurd h (by omega), HPN5, HB4.out⟩
  case round =>
    clear HPN5 HB4 HLF1 HLF
    obtain ⟨k, P, c, hk, rfl, hlf, hc, hck, hpb, hB⟩ := hrel
    have HLF := Lib.hid hlf
    have HB := Lib.hid hB
    clear hlf hB
    by_cases hlt : k < N
    · have hst := HLF.out.step hc
      obtain ⟨P', hP'⟩ : ∃ P', P' = P.stepped 65535 65535 P.n := ⟨_, rfl⟩
      have hcall := pStep P 65535 65535 wr HLF.out.ok (by decide) (by decide)
      rw [← hP'] at hst hcall
      have HST := Lib.hid hst
      have HCL := Lib.hid hcall
      clear hst hP' hcall
      go_wp2_with (refine wpList_load_row rfl 95 _ rfl _ rfl _ _ _ _ hpb Try.underlying95 rfl (by exact size_pl _) ?_; (try go_simp))
      go_at_call 48
      refine HCL.out.mono ?_
      rintro e w4 ⟨rfl, hb⟩
      have HPN6 := hpb.below hb (Nat.le_refl _)
      have HPN7 : PlB (w4.setRow gp P'.cs) gp P' := setRow_heap _ _ _ _ _ _ HPN6
      have HB5 := Lib.hid (bel_row (HB.out.trans (hb.mono HB.out.size)) HGP.out P'.cs)
      clear hb hpb HB HCL
      have hwk := fun w => pWorks P' w (fun k => (P'.u k).s == 2) x (by rw [HST.out.n, HST.out.wk2, ← HWT.out.2.1]) HST.out.ok.n (fun k s l b e => by rw [e])
      have hls := fun w => pLost P' w (fun k => (P'.u k).s == 3) 0 (by rw [HST.out.n, HST.out.lost (.inr rfl)]) HST.out.ok.n (fun k s l b e => by rw [e])
      have HWK := Lib.hid hwk
      have HLS := Lib.hid hls
      clear hwk hls
      go_upto_region 15 with (refine wpList_store_row rfl 95 _ _ rfl _ (Pl.cs _) rfl rfl 95 _ HPN6 (size_pl _) (by simp only [Pl.size]) (Pl.one _) ?_; (try go_simp))
      obtain ⟨w5, hw5⟩ : ∃ w5, w5 = w4.setRow gp P'.cs := ⟨_, rfl⟩
      rw [← hw5] at HPN7 HB5 ⊢
      clear hw5 HPN6
      go_wp2_with (refine wpList_load_row rfl 95 _ rfl _ rfl _ _ _ _ HPN7 Try.underlying95 rfl (by exact size_pl _) ?_; (try go_simp))
      go_at_call 47
      refine (HWK.out _).mono ?_
      rintro e w6 ⟨rfl, hb⟩
      have HPN8 := HPN7.below hb (Nat.le_refl _)
      have HB6 := Lib.hid (HB5.out.trans (hb.mono HB5.out.size))
      clear hb HPN7 HB5
      go_wp2_with (refine wpLoadW (by (first | exact Go.Mix.wanted_none rfl | exact Go.Mix.wanted_tt rfl rfl rfl | exact Go.Mix.wanted_ff rfl rfl rfl)) 95 _ rfl _ rfl _ _ _ _ HPN8 Try.underlying95 rfl (size_pl _) ?_; (try go_simp))
      go_at_call 49
      refine (HLS.out _).mono ?_
      rintro e w7 ⟨rfl, hb⟩
      have HPN9 := HPN8.below hb (Nat.le_refl _)
      have HB7 := Lib.hid (HB6.out.trans (hb.mono HB6.out.size))
      clear hb HPN8 HB6
      go_wp2
      go_roundw
      case rel => exact ⟨k + 1, P', 2, by omega, by go_num, HST.out, .inr rfl, fun _ => rfl, HPN9, HB7.out⟩
      case measure => simp [intOf]; omega
    · have hc2 : c = 2 := hck (by omega)
      subst hc2
      obtain ⟨li, hli⟩ : ∃ li, li = (Bs.upTo x 16).map fun (i : Nat) => ((i : Nat) : Int) := ⟨_, rfl⟩
      have hoff := life_off HLF.out HWT.out.2.1.symm hli
      have hcall := fun w => pOnly0 P w (fun k => decide ((P.u k).s = 1) || decide ((P.u k).s = 2)) x li (by rw [HLF.out.n, HLF.out.pow (.inr rfl), ← HWT.out.2.1]) HLF.out.ok.n (fun k s l b e => by rw [e]) hli
      have hqok : (ordAll false P li).1.Ok := Pl.Ok.allA li [] HLF.out.ok
      obtain ⟨q, hq⟩ : ∃ q, q = (ordAll false P li).1 := ⟨_, rfl⟩
      obtain ⟨out, hout⟩ : ∃ out, out = (ordAll false P li).2 := ⟨_, rfl⟩
      rw [← hq, ← hout] at hoff
      rw [← hq] at hqok hcall
      rw [← hout] at hcall
      have hcnt := Bs.Count_any x
      rw [count_is x hxl] at hcnt
      obtain ⟨cc, hcc⟩ : ∃ cc, cc = (Bs.upTo x 16).length := ⟨_, rfl⟩
      rw [← hcc] at hoff hcnt
      have hpw := fun w => pPowered q w (fun k => decide ((q.u k).s = 1) || decide ((q.u k).s = 2)) 0 (by rw [hoff.2.1]; exact setN_none (fun i hi => by rw [hoff.2.2 i hi]; rfl)) hqok.n (fun k s l b e => by rw [e])
      have hwk := fun w => pWorks q w (fun k => (q.u k).s == 2) 0 (by rw [hoff.2.1]; exact setN_none (fun i hi => by rw [hoff.2.2 i hi]; rfl)) hqok.n (fun k s l b e => by rw [e])
      have HCL := Lib.hid hcall
      have HPW := Lib.hid hpw
      have HWK := Lib.hid hwk
      have HCN := Lib.hid hcnt
      have HOF := Lib.hid hoff
      clear hoff hcall hqok hq hout hcnt hcc hpw hwk hli
      go_wp2_with (refine wpList_load_row rfl 95 _ rfl _ rfl _ _ _ _ hpb Try.underlying95 rfl (by exact size_pl _) ?_; (try go_simp))
      go_at_call 50
      refine (HCL.out _).mono ?_
      rintro e w4 ⟨v, rfl, hown, hb⟩
      obtain ⟨va, vc, rfl⟩ := own_form2 hown
      rw [HOF.out.1]
      have HB5 := Lib.hid (HB.out.trans (hb.mono HB.out.size))
      have HQN := PlB.new w4 q
      clear hown hb hpb HB HCL
      go_upto_region 19 with (refine wpList_store_row rfl 95 _ _ rfl _ (Pl.cs _) rfl rfl 95 _ (heap_alloc_new w4 (.cells (Pl.empty 0).cs 95)) (size_pl _) (by simp only [Pl.size]) (Pl.one _) ?_; rw [World.setRow_alloc_new]; (try go_simp))
      have HB6 := Lib.hid (HB5.out.alloc HB5.out.size (.cells q.cs 95))
      obtain ⟨w5, hw5⟩ : ∃ w5, w5 = w4.alloc (.cells q.cs 95) := ⟨_, rfl⟩
      obtain ⟨gq, hgq⟩ : ∃ gq, gq = w4.heap.size := ⟨_, rfl⟩
      rw [← hw5] at HQN HB6 ⊢
      rw [← hgq] at HQN ⊢
      clear hw5 hgq HB5
      go_wp2_with fail
      go_at_call 51
      refine (HCN.out _ hxl).mono ?_
      rintro e w6 ⟨rfl, hb⟩
      have HQ6 := HQN.below hb (Nat.le_refl _)
      have HB7 := Lib.hid (HB6.out.trans (hb.mono HB6.out.size))
      clear hb HQN HB6
      go_wp2_with (refine wpLoadW (by (first | exact Go.Mix.wanted_none rfl | exact Go.Mix.wanted_tt rfl rfl rfl | exact Go.Mix.wanted_ff rfl rfl rfl)) 95 _ rfl _ rfl _ _ _ _ HQ6 Try.underlying95 rfl (size_pl _) ?_; (try go_simp))
      go_at_call 46
      refine (HPW.out _).mono ?_
      rintro e w7 ⟨rfl, hb⟩
      have HQ7 := HQ6.below hb (Nat.le_refl _)
      have HB8 := Lib.hid (HB7.out.trans (hb.mono HB7.out.size))
      clear hb HQ6 HB7
      go_wp2_with (refine wpLoadW (by (first | exact Go.Mix.wanted_none rfl | exact Go.Mix.wanted_tt rfl rfl rfl | exact Go.Mix.wanted_ff rfl rfl rfl)) 95 _ rfl _ rfl _ _ _ _ HQ7 Try.underlying95 rfl (size_pl _) ?_; (try go_simp))
      go_at_call 47
      refine (HWK.out _).mono ?_
      rintro e w8 ⟨rfl, hb⟩
      have HB9 := Lib.hid (HB8.out.trans (hb.mono HB8.out.size))
      clear hb HQ7 HB8
      go_wp2
      go_ret
      exact ⟨rfl, HB9.out⟩
end Go.Proofs.Ytkgeeohgfbacaaa
