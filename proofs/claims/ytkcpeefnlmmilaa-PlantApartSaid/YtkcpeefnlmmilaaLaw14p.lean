/- PlantApart: what is done with some units touches no other one. -/
import Derived.Test.YtkcpeefnlmmilaaLaw14
import Derived.Test.YtkcpeefnlmmilaaPlA
import Derived.Test.YtkcpeefnlmmilaaFlat
import Derived.Deep.CutBlock
import Derived.Deep.DeepCutAuto
import Derived.Lib.SliceRun
namespace Go.Proofs.Ytkcpeefnlmmilaa
open Go.RowKit Go.Own
set_option linter.unusedVariables false
set_option linter.unusedSimpArgs false
theorem run_minJ {P : Program} (ats : Array TypeId) (ty : TypeId) (k : IntKind) (a b : Int) (w : World) : (Builtin.min_ ats ty #[.int k a, .int k b]).run P w = .ok (.int k (min a b)) w := by
  have e2 : (Builtin.min2 (.int k a) (.int k b)).run P w = .ok (.int k (min a b)) w := by
    unfold Builtin.min2
    by_cases h : b < a
    · have e : min a b = b := by omega
      simp [e, h]
    · have e : min a b = a := by omega
      simp [e, h]
  simp [Builtin.min_, e2]
theorem slR_upto (a : Option Addr) (len cap k : Nat) (hk : k ≤ cap) (w : World) : (Instr.slice 128 (.slice a len cap) none (some (.int .i64 (k : Nat))) none).run Try.prog w = .ok (.slice a k cap) w := by
  rw [run_slice_h w 128 a len cap (by kernel_rfl) .i64 _ (by omega) (by omega)]
  have hz : (sizeOf (Try.prog.elem 128)).run Try.prog w = .ok 2 w := by kernel_rfl
  rw [hz]
  simp [sliced, Result.andThen]
  cases a <;> simp [Addr.add]
theorem slI_upto (a : Option Addr) (len cap k : Nat) (hk : k ≤ cap) (w : World) : (Instr.slice 29 (.slice a len cap) none (some (.int .i64 (k : Nat))) none).run Try.prog w = .ok (.slice a k cap) w := by
  rw [run_slice_h w 29 a len cap (by kernel_rfl) .i64 _ (by omega) (by omega)]
  have hz : (sizeOf (Try.prog.elem 29)).run Try.prog w = .ok 1 w := by kernel_rfl
  rw [hz]
  simp [sliced, Result.andThen]
  cases a <;> simp [Addr.add]
theorem choose_nat {α : Type} [Inhabited α] {n : Nat} {p : Nat → α → Prop} (h : ∀ i, i < n → ∃ v, p i v) : ∃ f : Nat → α, ∀ i, i < n → p i (f i) :=
  ⟨fun i => if hi : i < n then Classical.choose (h i hi) else default, fun i hi => by simp only [dif_pos hi]; exact Classical.choose_spec (h i hi)⟩
theorem rls_flat {w : World} {a : Option Addr} {len cap m : Nat} (h : IsFlat [.int .u8, .int .u8] w a len cap) (hm : m ≤ len) : ∃ wt tol : Nat → Int, RlS w a m cap wt tol ∧ (∀ i, i < m → 0 ≤ wt i ∧ wt i ≤ 255) ∧ (∀ i, i < m → 0 ≤ tol i ∧ tol i ≤ 255) := by
  obtain ⟨h1, h2, _, h4⟩ := h
  by_cases h0 : 0 < len
  · obtain ⟨b, off, e, hb, hx⟩ := h4 h0
    have each : ∀ i, i < len → ∃ v : Int × Int, w.cell? ⟨b, off + i * 2, none⟩ = some (.int .u8 v.1) ∧ w.cell? ⟨b, off + i * 2 + 1, none⟩ = some (.int .u8 v.2) ∧ (0 ≤ v.1 ∧ v.1 ≤ 255) ∧ (0 ≤ v.2 ∧ v.2 ≤ 255) := by
      intro i hi
      obtain ⟨cs, hf, hc⟩ := hx i hi
      match cs, hf with
      | [v0, v1], ⟨⟨z0, e0, k0⟩, ⟨z1, e1, k1⟩, _⟩ =>
        subst e0 e1
        exact ⟨(z0, z1), hc 0 _ rfl, hc 1 _ rfl, bounds_u8 k0, bounds_u8 k1⟩
    obtain ⟨f, hf⟩ := choose_nat each
    exact ⟨fun i => (f i).1, fun i => (f i).2, ⟨by omega, h2, fun _ => ⟨b, off, e, hb, fun i hi => ⟨(hf i (by omega)).1, (hf i (by omega)).2.1⟩⟩⟩, fun i hi => (hf i (by omega)).2.2.1, fun i hi => (hf i (by omega)).2.2.2⟩
  · exact ⟨fun _ => 0, fun _ => 0, ⟨by omega, h2, fun h => absurd h (by omega)⟩, fun i hi => absurd hi (by omega), fun i hi => absurd hi (by omega)⟩
theorem ints_in {w : World} {a : Option Addr} {len cap : Nat} {z : List Int} (h : IsRow .i64 w a len cap z) : ∃ l : List Int, l.length = len ∧ Rd w.heap.size w a len cap (Bs.iv l) := by
  rcases h with ⟨rfl, rfl, rfl, rfl⟩ | ⟨x, rfl, hl, hm, hz, hcell, hwz⟩
  · exact ⟨[], rfl, Rd.none_ _ _ _⟩
  · refine ⟨z.take len, by simp; omega, (rd_of_row hl hm (by omega) hcell).same fun i hi => ?_⟩
    unfold Bs.iv
    simp [List.getD, hi]
set_option maxRecDepth 100000 in
set_option maxHeartbeats 8000000 in
theorem walk_PlantApart (a0 : Option Addr) (len0 cap0 : Nat) (a1 : Int) (a2 : Option Addr) (len2 cap2 : Nat) (z2 : List Int) (a3 : Bool) (a4 : Int) (w : World) (w0 : IsFlat [.int .u8, .int .u8] w a0 len0 cap0) (w1 : (Lit.int .u16 a1).wf = true) (w2 : IsRow .i64 w a2 len2 cap2 z2) (w4 : (Lit.int .i64 a4).wf = true) :
    Calls Try.prog 13 #[.slice a0 len0 cap0, .int .u16 a1, .slice a2 len2 cap2, .bool a3, .int .i64 a4] w fun e w' => e = .returned (.bool true) ∧ Below w.heap.size w w' := by
  obtain ⟨p0, p1⟩ := bounds_u16 w1
  obtain ⟨sa, rfl⟩ := Int.eq_ofNat_of_zero_le p0
  obtain ⟨m, hm⟩ : ∃ m, m = min len0 16 := ⟨_, rfl⟩
  obtain ⟨wt, tol, hrl, hb1, hb2⟩ := rls_flat w0 (m := m) (by omega)
  obtain ⟨l0, hl0, hrd0⟩ := ints_in w2
  obtain ⟨n2, hn2⟩ : ∃ m, m = min len2 20 := ⟨_, rfl⟩
  obtain ⟨l, hl⟩ : ∃ l, l = l0.take n2 := ⟨_, rfl⟩
  have hll : l.length = n2 := by rw [hl]; simp; omega
  have hrd : Rd w.heap.size w a2 n2 cap2 (Bs.iv l) := (hrd0.first (by omega)).same fun i hi => by
    unfold Bs.iv
    rw [hl]
    simp [List.getD, List.getElem?_take, hi]
  have hm16 : m ≤ 16 := by omega
  have hn20 : n2 ≤ 20 := by omega
  have hmc : m ≤ cap0 := hrl.le
  have hnc : n2 ≤ cap2 := hrd.le
  have ht0 := hrl.top
  have ht2 := hrd.top
  unfold maxLen at ht0 ht2
  have h02 : len0 ≤ cap0 ∧ len2 ≤ cap2 := ⟨w0.1, hrd0.le⟩
  obtain ⟨h0c, h2c⟩ := h02
  have hmn1 := fun (w : World) => run_minJ (P := Try.prog) #[3, 3] 3 .i64 (len0 : Int) 16 w
  have hmn2 := fun (w : World) => run_minJ (P := Try.prog) #[3, 3] 3 .i64 (len2 : Int) 20 w
  rw [show min (len0 : Int) 16 = ((m : Nat) : Int) by omega] at hmn1
  rw [show min (len2 : Int) 20 = ((n2 : Nat) : Int) by omega] at hmn2
  have hs1 := slR_upto a0 len0 cap0 m hmc
  have hs2 := slI_upto a2 len2 cap2 n2 hnc
  obtain ⟨P0, hP0⟩ : ∃ p, p = Pl.part m wt tol m := ⟨_, rfl⟩
  have hok0 : P0.Ok := by rw [hP0]; exact part_ok hm16 hb1 hb2
  have hst0 : ∀ j, (P0.u j).st := by intro j; rw [hP0]; exact .inl rfl
  have HRL := Lib.hid hrl
  have HRD := Lib.hid hrd
  have HLL := Lib.hid hll
  have HP0 := Lib.hid hP0
  have HOK0 := Lib.hid hok0
  have HST0 := Lib.hid hst0
  clear w0 w1 w2 w4 hm hn2 hl hl0 hrd0 hrl hrd hll hb1 hb2 hok0 hst0 hP0
  go_enter Try.func13, Try.ntmps13
  go_wp2_with fail
  go_at_call 59
  refine (awake14 _).mono ?_
  rintro e wb ⟨rfl, hb1⟩
  have HB1 := Lib.hid hb1
  have HRLb := Lib.hid (HRL.out.below hb1 (Nat.le_refl _))
  clear hb1 HRL
  go_wp2_with fail
  go_at_call 60
  have hcall := pNew_ok a0 m cap0 wt tol wb HRLb.out hm16
  rw [← HP0.out] at hcall
  with_reducible refine hcall.mono ?_
  clear hcall
  rintro e wc ⟨rfl, hb2⟩
  have HB2 := Lib.hid (HB1.out.trans (hb2.mono HB1.out.size))
  have HPN := PlB.new wc P0
  clear hb2 HB1 HRLb hmn1 hs1
  go_upto_region 7 with (refine wpList_store_row rfl 133 _ _ rfl _ (Pl.cs _) rfl rfl 133 _ (heap_alloc_new wc (.cells (Pl.empty 0).cs 133)) (size_pl _) (by simp only [Pl.size]) (Pl.one _) ?_; rw [World.setRow_alloc_new]; (try go_simp))
  obtain ⟨gp, hgp⟩ : ∃ g, g = wc.heap.size := ⟨_, rfl⟩
  obtain ⟨wd, hwd⟩ : ∃ wd, wd = wc.alloc (.cells P0.cs 133) := ⟨_, rfl⟩
  have HBD := Lib.hid (show Below w.heap.size w wd by rw [hwd]; exact HB2.out.alloc HB2.out.size _)
  have HGP := Lib.hid (show w.heap.size ≤ gp by rw [hgp]; exact HB2.out.size)
  rw [← hwd, ← hgp] at HPN
  rw [← hwd, ← hgp]
  clear hwd hgp HB2
  go_wp2_with (refine wpList_load_row rfl 133 _ rfl _ rfl _ _ _ _ HPN Try.underlying133 rfl (by exact size_pl _) ?_; (try go_simp))
  have hr : Rd (wd.alloc (.cells #[.int .i64 0, .int .i64 2, .int .i64 4, .int .i64 6] 3)).heap.size (wd.alloc (.cells #[.int .i64 0, .int .i64 2, .int .i64 4, .int .i64 6] 3)) (some ⟨wd.heap.size, 0, none⟩) 4 4 (Bs.iv [0, 2, 4, 6]) := rd_ints wd [0, 2, 4, 6] 3 (by decide) (by decide)
  have hal : Below wd.heap.size wd (wd.alloc (.cells #[.int .i64 0, .int .i64 2, .int .i64 4, .int .i64 6] 3)) := (Below.refl _ _).alloc (Nat.le_refl _) _
  go_at_call 62
  have hcall := pOrder P0 true _ 4 4 [0, 2, 4, 6] _ HOK0.out.n rfl hr (by decide)
  have hok1 : (ordAll true P0 [0, 2, 4, 6]).1.Ok := Pl.Ok.allA [0, 2, 4, 6] [] HOK0.out
  have hst1 : ∀ j, ((ordAll true P0 [0, 2, 4, 6]).1.u j).st := (ordAll_is P0 true [0, 2, 4, 6] HST0.out).st HST0.out
  obtain ⟨P1, hP1⟩ : ∃ p, p = (ordAll true P0 [0, 2, 4, 6]).1 := ⟨_, rfl⟩
  rw [← hP1] at hcall hok1 hst1
  with_reducible refine hcall.mono ?_
  clear hcall hP1
  rintro e w1 ⟨v, rfl, _, hb⟩
  have hb1 := hal.trans (hb.mono (by simp))
  have HPN1 := HPN.below hb1 (Nat.le_refl _)
  have HPN2 : PlB (w1.setRow gp P1.cs) gp P1 := setRow_heap _ _ _ _ _ _ HPN1
  have HB1 := Lib.hid (bel_row (HBD.out.trans (hb1.mono HBD.out.size)) HGP.out P1.cs)
  have HOK1 := Lib.hid hok1
  have HST1 := Lib.hid hst1
  clear hb hb1 hal hr hok1 hst1 HPN HBD HOK0 HST0 HP0
  go_wp2_with (first | (refine wpList_store_row rfl 133 _ _ rfl _ (Pl.cs _) rfl rfl 133 _ HPN1 (size_pl _) (by simp only [Pl.size]) (Pl.one _) ?_; (try go_simp)) | (refine wpList_load_row rfl 133 _ rfl _ rfl _ _ _ _ HPN2 Try.underlying133 rfl (by exact size_pl _) ?_; (try go_simp)))
  obtain ⟨we, hwe⟩ : ∃ we, we = w1.setRow gp P1.cs := ⟨_, rfl⟩
  rw [← hwe] at HPN2 HB1 ⊢
  clear hwe HPN1
  go_at_call 67
  have hcall := pStep P1 sa sa we HOK1.out (by omega) (by omega)
  have hok2 := stepped_ok HOK1.out sa sa P1.n
  have hst2 := stepped_st P1 sa sa P1.n HST1.out
  obtain ⟨P2, hP2⟩ : ∃ p, p = P1.stepped sa sa P1.n := ⟨_, rfl⟩
  rw [← hP2] at hcall hok2 hst2
  with_reducible refine hcall.mono ?_
  clear hcall hP2
  rintro e w2 ⟨rfl, hb⟩
  have HPN3 := HPN2.below hb (Nat.le_refl _)
  have HPN4 : PlB (w2.setRow gp P2.cs) gp P2 := setRow_heap _ _ _ _ _ _ HPN3
  have HB2 := Lib.hid (bel_row (HB1.out.trans (hb.mono HB1.out.size)) HGP.out P2.cs)
  have HOK2 := Lib.hid hok2
  have HST2 := Lib.hid hst2
  clear hb hok2 hst2 HPN2 HB1 HOK1 HST1
  go_wp2_with (first | (refine wpList_store_row rfl 133 _ _ rfl _ (Pl.cs _) rfl rfl 133 _ HPN3 (size_pl _) (by simp only [Pl.size]) (Pl.one _) ?_; (try go_simp)) | (refine wpList_load_row rfl 133 _ rfl _ rfl _ _ _ _ HPN4 Try.underlying133 rfl (by exact size_pl _) ?_; (try go_simp)))
  obtain ⟨wf, hwf⟩ : ∃ wf, wf = w2.setRow gp P2.cs := ⟨_, rfl⟩
  rw [← hwf] at HPN4 HB2 ⊢
  clear hwf HPN3
  have hrf := (HRD.out.below HB2.out).mono HB2.out.size
  go_at_call 62
  have hcall := pOrder P2 a3 a2 n2 cap2 l wf HOK2.out.n HLL.out hrf (by omega)
  have his := ordAll_is P2 a3 l HST2.out
  have hag := ordAll_again P2 a3 l HST2.out
  have hok3 : (ordAll a3 P2 l).1.Ok := Pl.Ok.allA l [] HOK2.out
  obtain ⟨q, hq⟩ : ∃ p, p = (ordAll a3 P2 l).1 := ⟨_, rfl⟩
  obtain ⟨out, hout⟩ : ∃ p, p = (ordAll a3 P2 l).2 := ⟨_, rfl⟩
  have hol : out.length ≤ n2 := by rw [hout, ← HLL.out]; exact ordAll_len a3 P2 l
  have hx : ordAll a3 P2 l = (q, out) := by rw [hq, hout]
  rw [hx] at hcall his
  rw [← hq] at hag hok3
  simp only at hcall
  with_reducible refine hcall.mono ?_
  clear hcall hq hout hx
  rintro e w3 ⟨v, rfl, hown, hb⟩
  obtain ⟨va, vc, rfl⟩ := own_form2 hown
  have hal : Below w3.heap.size w3 (w3.alloc (.cells q.cs 133)) := (Below.refl _ _).alloc (Nat.le_refl _) _
  have HOWN := Lib.hid (own_keep2 hown hal)
  have HPN5 := (HPN4.below hb (Nat.le_refl _)).below hal (Nat.le_refl _)
  have HQN := PlB.new w3 q
  have HB3 := Lib.hid ((HB2.out.trans (hb.mono HB2.out.size)).trans (hal.mono (Nat.le_trans HB2.out.size hb.size)))
  have HIS := Lib.hid his
  have HAG := Lib.hid hag
  have HOK3 := Lib.hid hok3
  clear hb hown hal hrf his hag hok3 HPN4 HB2
  go_upto_region 10 with (refine wpList_store_row rfl 133 _ _ rfl _ (Pl.cs _) rfl rfl 133 _ (heap_alloc_new w3 (.cells (Pl.empty 0).cs 133)) (size_pl _) (by simp only [Pl.size]) (Pl.one _) ?_; rw [World.setRow_alloc_new]; (try go_simp))
  obtain ⟨gq, hgq⟩ : ∃ g, g = w3.heap.size := ⟨_, rfl⟩
  obtain ⟨wq, hwq⟩ : ∃ wq, wq = w3.alloc (.cells q.cs 133) := ⟨_, rfl⟩
  rw [← hwq] at HPN5 HQN HB3 HOWN
  rw [← hgq] at HQN
  rw [← hwq, ← hgq]
  clear hwq hgq
  have HRQ := Lib.hid ((HRD.out.below HB3.out).mono HB3.out.size)
  go_wp2_with fail
  go_loopw [15, 64] (fun nm i wr => ∃ k : Nat, k ≤ n2 ∧ i = .int .i64 k ∧ nm = .bool (decide (a4 ∈ l.take k)) ∧ wr = wq) (fun _ i _ => n2 - (intOf i).toNat)
  case atStart => exact ⟨0, by omega, rfl, by simp, rfl⟩
  case round =>
    obtain ⟨k, hk, rfl, rfl, rfl⟩ := hrel
    by_cases hlt : k < n2
    · obtain ⟨bb, off, rfl, _, hc0⟩ := HRQ.out.at hlt
      unfold Bs.iv at hc0
      have hsucc := takeZ_succ l (k := k) (by rw [HLL.out]; exact hlt)
      obtain ⟨x, hx⟩ : ∃ x, x = l.getD k 0 := ⟨_, rfl⟩
      rw [← hx] at hc0 hsucc
      obtain ⟨t, ht⟩ : ∃ t, t = decide (a4 ∈ l.take k) := ⟨_, rfl⟩
      rw [← ht]
      have HT := Lib.hid (And.intro ht hsucc)
      clear ht hsucc hx
      cases t
      · have hin : a4 ∉ l.take k := by have := HT.out.1.symm; simpa using this
        by_cases e : x = a4
        · subst e
          have HD := Lib.hid (show decide (x ∈ l.take (k + 1)) = true by rw [HT.out.2]; simp)
          go_wp2_with fail
          go_roundw
          case rel => exact ⟨k + 1, by omega, by go_num, by rw [HD.out], trivial⟩
          case measure => simp [intOf]; omega
        · have e1 : (x == a4) = false := by simpa using e
          have HD := Lib.hid (show decide (a4 ∈ l.take (k + 1)) = false by rw [HT.out.2]; simp [hin, Ne.symm e])
          clear e hin
          go_wp2_with fail
          go_roundw
          case rel => exact ⟨k + 1, by omega, by go_num, by rw [HD.out], trivial⟩
          case measure => simp [intOf]; omega
      · have HD := Lib.hid (show decide (a4 ∈ l.take (k + 1)) = true by
          have h1 : a4 ∈ l.take k := by have := HT.out.1.symm; simpa using this
          rw [HT.out.2]; simp [h1])
        go_wp2_with fail
        go_roundw
        case rel => exact ⟨k + 1, by omega, by go_num, by rw [HD.out], trivial⟩
        case measure => simp [intOf]; omega
    · obtain rfl : n2 = k := by omega
      rw [List.take_of_length_le (by rw [HLL.out]; exact Nat.le_refl _)]
      obtain ⟨t, ht⟩ : ∃ t, t = decide (a4 ∈ l) := ⟨_, rfl⟩
      rw [← ht]
      have HT := Lib.hid ht
      have hgp := box_lt HPN5
      have hgq := box_lt HQN
      have HP6 := Lib.hid HPN5
      have HQ6 := Lib.hid HQN
      clear ht HPN5 HQN
      go_upto_region 16 with fail
      go_cut [85] (fun s wx => s = .bool false ∧ PlB wx gp P2 ∧ PlB wx gq q ∧ wx.ownsRow wf.heap.size 148 2 (.slice va out.length vc) out.length (ocs a3 out) ∧ Below w.heap.size w wx)
      case first =>
        obtain ⟨s, lf, b, hu⟩ : ∃ s lf b, P2.at a4 = Un.mk s lf b := ⟨_, _, _, rfl⟩
        have HU := Lib.hid hu
        clear hu
        obtain ⟨I, W, hne, hWI, hIW⟩ := Go.Mix.family (fun v => Below wr.heap.size wr v) (Below.refl _ _)
        have HJ := Lib.hid hIW
        have HW := Lib.hid hWI
        clear hWI hIW
        refine Go.Flo.wp_region (fun w' => ∃ i, w' = W i) 11 [Go.Flo.Spec.is (.agg #[.int .u8 s, .int .u8 lf, .int .u8 b]), Go.Flo.Spec.is (.agg #[.int .u8 s, .int .u8 lf, .int .u8 b])] (by kernel_rfl) (by kernel_rfl) (by decide) (by rintro _ w' ⟨i, rfl⟩ hb; exact HJ.out _ ((HW.out i).trans (hb.mono (HW.out i).size))) (HJ.out _ (Below.refl _ _).drew) ?_
        simp only [Go.Flo.pair, Go.Mix.calm, List.take, List.drop, if_true, Bool.false_eq_true, if_false, Nat.reduceAdd, Nat.reduceSub]
        cases t
        · have HN := Lib.hid (show q.at a4 = Un.mk s lf b by rw [← HU.out]; exact HIS.out.at_ a4 (by have := HT.out.symm; simpa using this))
          (first | (refine Go.Flo.fw_calm rfl ?_ (fun K hK => ?_); (first | exact Go.Mix.wanted_none rfl | exact Go.Mix.wanted_tt rfl rfl rfl | exact Go.Mix.wanted_ff rfl rfl rfl); go_big_quiet_op; refine hK _ ?_; clear hK K) | (refine Go.Flo.fw_skip ?_ (fun K hK => ?_); (first | exact Go.Mix.wanted_tf rfl rfl rfl | exact Go.Mix.wanted_ft rfl rfl rfl); go_simp; refine hK _ ?_; clear hK K) | (refine Go.Flo.fw_any rfl ?_ (fun K hK => ?_); (first | exact Go.Mix.wanted_none rfl | exact Go.Mix.wanted_tt rfl rfl rfl | exact Go.Mix.wanted_ff rfl rfl rfl); go_simp; (try (go_ints; try go_simp)); refine hK _ ?_; clear hK K))
          (first | (refine Go.Flo.fw_calm rfl ?_ (fun K hK => ?_); (first | exact Go.Mix.wanted_none rfl | exact Go.Mix.wanted_tt rfl rfl rfl | exact Go.Mix.wanted_ff rfl rfl rfl); go_big_quiet_op; refine hK _ ?_; clear hK K) | (refine Go.Flo.fw_skip ?_ (fun K hK => ?_); (first | exact Go.Mix.wanted_tf rfl rfl rfl | exact Go.Mix.wanted_ft rfl rfl rfl); go_simp; refine hK _ ?_; clear hK K) | (refine Go.Flo.fw_any rfl ?_ (fun K hK => ?_); (first | exact Go.Mix.wanted_none rfl | exact Go.Mix.wanted_tt rfl rfl rfl | exact Go.Mix.wanted_ff rfl rfl rfl); go_simp; (try (go_ints; try go_simp)); refine hK _ ?_; clear hK K))
          (first | (refine Go.Flo.fw_calm rfl ?_ (fun K hK => ?_); (first | exact Go.Mix.wanted_none rfl | exact Go.Mix.wanted_tt rfl rfl rfl | exact Go.Mix.wanted_ff rfl rfl rfl); go_big_quiet_op; refine hK _ ?_; clear hK K) | (refine Go.Flo.fw_skip ?_ (fun K hK => ?_); (first | exact Go.Mix.wanted_tf rfl rfl rfl | exact Go.Mix.wanted_ft rfl rfl rfl); go_simp; refine hK _ ?_; clear hK K) | (refine Go.Flo.fw_any rfl ?_ (fun K hK => ?_); (first | exact Go.Mix.wanted_none rfl | exact Go.Mix.wanted_tt rfl rfl rfl | exact Go.Mix.wanted_ff rfl rfl rfl); go_simp; (try (go_ints; try go_simp)); refine hK _ ?_; clear hK K))
          (refine Go.Flo.fw_calm rfl ?_ (fun K hK => ?_); (first | exact Go.Mix.wanted_none rfl | exact Go.Mix.wanted_tt rfl rfl rfl | exact Go.Mix.wanted_ff rfl rfl rfl); refine Go.Flo.quiet_load_row 133 _ rfl gq rfl _ (Pl.cs q) _ (by rintro _ ⟨i, rfl⟩; exact ((HW.out i).block gq hgq).trans HQ6.out) Try.underlying133 rfl (size_pl _) ?_; go_simp; refine hK _ ?_; clear hK K)
          (first | (refine Go.Flo.fw_calm rfl ?_ (fun K hK => ?_); (first | exact Go.Mix.wanted_none rfl | exact Go.Mix.wanted_tt rfl rfl rfl | exact Go.Mix.wanted_ff rfl rfl rfl); go_big_quiet_op; refine hK _ ?_; clear hK K) | (refine Go.Flo.fw_skip ?_ (fun K hK => ?_); (first | exact Go.Mix.wanted_tf rfl rfl rfl | exact Go.Mix.wanted_ft rfl rfl rfl); go_simp; refine hK _ ?_; clear hK K) | (refine Go.Flo.fw_any rfl ?_ (fun K hK => ?_); (first | exact Go.Mix.wanted_none rfl | exact Go.Mix.wanted_tt rfl rfl rfl | exact Go.Mix.wanted_ff rfl rfl rfl); go_simp; (try (go_ints; try go_simp)); refine hK _ ?_; clear hK K))
          refine Go.Flo.fw_loud rfl ?_ rfl (by simp) (fun wv hwv hav K hK => ?_) (fun v hv K hK => ?_)
          · (first | exact Go.Mix.wanted_none rfl | exact Go.Mix.wanted_tt rfl rfl rfl | exact Go.Mix.wanted_ff rfl rfl rfl)
          · obtain ⟨iv, rfl⟩ := hwv
            have hbv := HW.out iv
            (first | go_big_op | go_simp)
            go_at_call 66
            refine (pAt q a4 _ HOK3.out.n s lf b _ _ HN.out rfl rfl).mono ?_
            rintro e w' ⟨rfl, hb⟩
            exact hK _ _ (Go.Flo.owes_is _ rfl hb)
          obtain rfl := hv.is
          go_simp
          refine hK _ ?_
          clear hK K hv
          (refine Go.Flo.fw_calm rfl ?_ (fun K hK => ?_); (first | exact Go.Mix.wanted_none rfl | exact Go.Mix.wanted_tt rfl rfl rfl | exact Go.Mix.wanted_ff rfl rfl rfl); refine Go.Flo.quiet_load_row 133 _ rfl gp rfl _ (Pl.cs P2) _ (by rintro _ ⟨i, rfl⟩; exact ((HW.out i).block gp hgp).trans HP6.out) Try.underlying133 rfl (size_pl _) ?_; go_simp; refine hK _ ?_; clear hK K)
          (first | (refine Go.Flo.fw_calm rfl ?_ (fun K hK => ?_); (first | exact Go.Mix.wanted_none rfl | exact Go.Mix.wanted_tt rfl rfl rfl | exact Go.Mix.wanted_ff rfl rfl rfl); go_big_quiet_op; refine hK _ ?_; clear hK K) | (refine Go.Flo.fw_skip ?_ (fun K hK => ?_); (first | exact Go.Mix.wanted_tf rfl rfl rfl | exact Go.Mix.wanted_ft rfl rfl rfl); go_simp; refine hK _ ?_; clear hK K) | (refine Go.Flo.fw_any rfl ?_ (fun K hK => ?_); (first | exact Go.Mix.wanted_none rfl | exact Go.Mix.wanted_tt rfl rfl rfl | exact Go.Mix.wanted_ff rfl rfl rfl); go_simp; (try (go_ints; try go_simp)); refine hK _ ?_; clear hK K))
          refine Go.Flo.fw_loud rfl ?_ rfl (by simp) (fun wv hwv hav K hK => ?_) (fun v hv K hK => ?_)
          · (first | exact Go.Mix.wanted_none rfl | exact Go.Mix.wanted_tt rfl rfl rfl | exact Go.Mix.wanted_ff rfl rfl rfl)
          · obtain ⟨iv, rfl⟩ := hwv
            have hbv := HW.out iv
            (first | go_big_op | go_simp)
            go_at_call 66
            refine (pAt P2 a4 _ HOK2.out.n s lf b _ _ HU.out rfl rfl).mono ?_
            rintro e w' ⟨rfl, hb⟩
            exact hK _ _ (Go.Flo.owes_is _ rfl hb)
          obtain rfl := hv.is
          go_simp
          refine hK _ ?_
          clear hK K hv
          (repeat (first | (refine Go.Flo.fw_calm rfl ?_ (fun K hK => ?_); (first | exact Go.Mix.wanted_none rfl | exact Go.Mix.wanted_tt rfl rfl rfl | exact Go.Mix.wanted_ff rfl rfl rfl); go_big_quiet_op; refine hK _ ?_; clear hK K) | (refine Go.Flo.fw_skip ?_ (fun K hK => ?_); (first | exact Go.Mix.wanted_tf rfl rfl rfl | exact Go.Mix.wanted_ft rfl rfl rfl); go_simp; refine hK _ ?_; clear hK K) | (refine Go.Flo.fw_any rfl ?_ (fun K hK => ?_); (first | exact Go.Mix.wanted_none rfl | exact Go.Mix.wanted_tt rfl rfl rfl | exact Go.Mix.wanted_ff rfl rfl rfl); go_simp; (try (go_ints; try go_simp)); refine hK _ ?_; clear hK K)))
          refine Go.Flo.fw_nil ?_
          intro w9 hww9 hfw9 huw9
          refine Go.Flo.tw_nil ?_
          obtain ⟨iend, hiend⟩ := hww9
          have hbw9 := HW.out iend
          rw [← hiend] at hbw9
          clear hiend iend huw9
          have HF := Lib.hid (And.intro (HP6.out.below hbw9 (Nat.le_refl _)) (And.intro (HQ6.out.below hbw9 (Nat.le_refl _)) (And.intro (own_keep2 HOWN.out hbw9) (HB3.out.trans (hbw9.mono HB3.out.size)))))
          clear hfw9 HJ HW hne hbw9
          clear W I
          go_wp2
          go_meet
          case rel => exact ⟨rfl, HF.out⟩
        · (repeat (first | (refine Go.Flo.fw_calm rfl ?_ (fun K hK => ?_); (first | exact Go.Mix.wanted_none rfl | exact Go.Mix.wanted_tt rfl rfl rfl | exact Go.Mix.wanted_ff rfl rfl rfl); go_big_quiet_op; refine hK _ ?_; clear hK K) | (refine Go.Flo.fw_skip ?_ (fun K hK => ?_); (first | exact Go.Mix.wanted_tf rfl rfl rfl | exact Go.Mix.wanted_ft rfl rfl rfl); go_simp; refine hK _ ?_; clear hK K) | (refine Go.Flo.fw_any rfl ?_ (fun K hK => ?_); (first | exact Go.Mix.wanted_none rfl | exact Go.Mix.wanted_tt rfl rfl rfl | exact Go.Mix.wanted_ff rfl rfl rfl); go_simp; (try (go_ints; try go_simp)); refine hK _ ?_; clear hK K)))
          refine Go.Flo.fw_nil ?_
          intro w9 hww9 hfw9 huw9
          refine Go.Flo.tw_nil ?_
          obtain ⟨iend, hiend⟩ := hww9
          have hbw9 := HW.out iend
          rw [← hiend] at hbw9
          clear hiend iend huw9
          have HF := Lib.hid (And.intro (HP6.out.below hbw9 (Nat.le_refl _)) (And.intro (HQ6.out.below hbw9 (Nat.le_refl _)) (And.intro (own_keep2 HOWN.out hbw9) (HB3.out.trans (hbw9.mono HB3.out.size)))))
          clear hfw9 HJ HW hne hbw9
          clear W I
          go_wp2
          go_meet
          case rel => exact ⟨rfl, HF.out⟩
      case rest =>
        obtain ⟨rfl, hP, hQ, hO, hB⟩ := hcut
        clear HP6 HQ6 HOWN HB3 hgp hgq
        have HF := Lib.hid (And.intro hP (And.intro hQ (And.intro hO hB)))
        clear hP hQ hO hB
        go_wp2_with fail
        go_loopw [18, 88] (fun sn i wr => ∃ k : Nat, k ≤ out.length ∧ i = .int .i64 k ∧ sn = .int .u16 (Bs.withS 0 ((out.take k).map fun (i : Nat) => ((i : Nat) : Int)) : Nat) ∧ PlB wr gp P2 ∧ PlB wr gq q ∧ wr.ownsRow wf.heap.size 148 2 (.slice va out.length vc) out.length (ocs a3 out) ∧ Below w.heap.size w wr) (fun _ i _ => out.length - (intOf i).toNat)
        case atStart => exact ⟨0, by omega, rfl, rfl, HF.out⟩
        case round =>
          obtain ⟨k, hk, rfl, rfl, hP, hQ, hO, hB⟩ := hrel
          clear HF
          obtain ⟨sn, hsn⟩ : ∃ s, s = Bs.withS 0 ((out.take k).map fun (i : Nat) => ((i : Nat) : Int)) := ⟨_, rfl⟩
          rw [← hsn]
          have hsl : sn < 65536 := by rw [hsn]; exact Bs.withS_lt (by omega) _
          by_cases hlt : k < out.length
          · obtain ⟨gv, rfl, _, hgl, hcv⟩ := own_cell hO (by omega)
            obtain ⟨hc0, hc1⟩ := ocs_at a3 out k hlt
            have c0 := hcv _ _ hc0
            have c1 := hcv _ _ hc1
            have hm := HIS.out.mem _ (getD_mem out hlt)
            have hnd := nodup_take out HIS.out.nodup hlt
            have htk := takeN_succ out hlt
            obtain ⟨u, hu⟩ : ∃ u, u = out.getD k 0 := ⟨_, rfl⟩
            rw [← hu] at c0 hm hnd htk
            have hun : u < P2.n := hm.1.2
            have hu16 : u < 16 := by have := HOK2.out.n; omega
            have hHas : decide (sn &&& Bs.bit1 ((u : Nat) : Int) ≠ 0) = false := by
              rw [hsn, withS_and _ 0 u (by simp) hnd]; rfl
            have hhP : P2.has (u : Int) = true := by simp [Pl.has]; omega
            have hqn : q.n = P2.n := HIS.out.n
            have hhQ : q.has (u : Int) = true := by simp [Pl.has]; omega
            obtain ⟨s1, l1, b1, hu1⟩ : ∃ s l b, P2.u u = Un.mk s l b := ⟨_, _, _, rfl⟩
            obtain ⟨s2, l2, b2, hu2⟩ : ∃ s l b, q.u u = Un.mk s l b := ⟨_, _, _, rfl⟩
            have ha1 : P2.at (u : Int) = Un.mk s1 l1 b1 := by unfold Pl.at; rw [if_pos hhP]; exact hu1
            have ha2 : q.at (u : Int) = Un.mk s2 l2 b2 := by unfold Pl.at; rw [if_pos hhQ]; exact hu2
            have hne : Un.mk s1 l1 b1 ≠ Un.mk s2 l2 b2 := by
              rw [← hu1, ← hu2, HIS.out.hit u hm.1]
              exact Ne.symm (uCmd_ne _ _ _ (HST2.out u) hm.2)
            have o1 := HOK2.out.s u hu16
            have o2 := HOK2.out.l u hu16
            have o3 := HOK2.out.b u hu16
            have o4 := HOK3.out.s u hu16
            have o5 := HOK3.out.l u hu16
            have o6 := HOK3.out.b u hu16
            rw [hu1] at o1 o2 o3
            rw [hu2] at o4 o5 o6
            have HNE := Lib.hid (fun w => un_eql o1 o2 o3 o4 o5 o6 hne w)
            have HA := Lib.hid (And.intro ha1 ha2)
            have HHAS := Lib.hid hHas
            have HNX := Lib.hid (show Bs.withS sn [((u : Nat) : Int)] = Bs.withS 0 ((out.take (k + 1)).map fun (i : Nat) => ((i : Nat) : Int)) by
              rw [htk, List.map_append, List.map_cons, List.map_nil, Bs.withS_snoc, ← hsn]; rfl)
            have hal : Below wr.heap.size wr (wr.alloc (.cells #[.int .i64 ((u : Nat) : Int), .bool a3] 148)) := (Below.refl _ _).alloc (Nat.le_refl _) _
            have HP7 := Lib.hid (PlB.below hP hal (Nat.le_refl _))
            have HQ7 := Lib.hid (PlB.below hQ hal (Nat.le_refl _))
            have HO7 := Lib.hid (own_keep2 hO hal)
            have HB7 := Lib.hid (hB.trans (hal.mono hB.size))
            have g7 := heap_alloc_new wr (.cells #[.int .i64 ((u : Nat) : Int), .bool a3] 148)
            clear hu hu1 hu2 ha1 ha2 hne o1 o2 o3 o4 o5 o6 hHas htk hnd hm hhP hhQ hqn hc0 hc1 hcv hP hQ hO hB hal hsn
            go_wp2_with fail
            obtain ⟨wz, hwz⟩ : ∃ wz, wz = wr.alloc (.cells #[.int .i64 ((u : Nat) : Int), .bool a3] 148) := ⟨_, rfl⟩
            obtain ⟨go, hgo⟩ : ∃ g, g = wr.heap.size := ⟨_, rfl⟩
            rw [← hwz] at HP7 HQ7 HO7 HB7 g7
            rw [← hgo] at g7
            rw [← hwz, ← hgo]
            clear hwz hgo c0 c1
            have hgol := box_lt g7
            have hgp := box_lt HP7.out
            have hgq := box_lt HQ7.out
            have d0 := cell_of_row _ _ 0 _ _ _ g7
            have d1 := cell_of_row _ _ 1 _ _ _ g7
            obtain ⟨I, W, hne, hWI, hIW⟩ := Go.Mix.family (fun v => Below wz.heap.size wz v) (Below.refl _ _)
            have HJ := Lib.hid hIW
            have HW := Lib.hid hWI
            clear hWI hIW
            refine Go.Flo.wp_region (fun w' => ∃ i, w' = W i) 21 [Go.Flo.Spec.is (.bool false), Go.Flo.Spec.is (.agg #[.int .u8 s1, .int .u8 l1, .int .u8 b1]), Go.Flo.Spec.is (.agg #[.int .u8 s2, .int .u8 l2, .int .u8 b2])] (by kernel_rfl) (by kernel_rfl) (by decide) (by rintro _ w' ⟨i, rfl⟩ hb; exact HJ.out _ ((HW.out i).trans (hb.mono (HW.out i).size))) (HJ.out _ (Below.refl _ _).drew) ?_
            simp only [Go.Flo.pair, Go.Mix.calm, List.take, List.drop, if_true, Bool.false_eq_true, if_false, Nat.reduceAdd, Nat.reduceSub]
            have k0 : ∀ i, (W i).cell? ⟨go, 0, none⟩ = some (.int .i64 ((u : Nat) : Int)) := fun i => ((HW.out i).cell (p := ⟨go, 0, none⟩) hgol).trans d0
            have k1 : ∀ i, (W i).cell? ⟨go, 1, none⟩ = some (.bool a3) := fun i => ((HW.out i).cell (p := ⟨go, 1, none⟩) hgol).trans d1
            (first | (refine Go.Flo.fw_calm rfl ?_ (fun K hK => ?_); (first | exact Go.Mix.wanted_none rfl | exact Go.Mix.wanted_tt rfl rfl rfl | exact Go.Mix.wanted_ff rfl rfl rfl); go_big_quiet_op; refine hK _ ?_; clear hK K) | (refine Go.Flo.fw_skip ?_ (fun K hK => ?_); (first | exact Go.Mix.wanted_tf rfl rfl rfl | exact Go.Mix.wanted_ft rfl rfl rfl); go_simp; refine hK _ ?_; clear hK K) | (refine Go.Flo.fw_any rfl ?_ (fun K hK => ?_); (first | exact Go.Mix.wanted_none rfl | exact Go.Mix.wanted_tt rfl rfl rfl | exact Go.Mix.wanted_ff rfl rfl rfl); go_simp; (try (go_ints; try go_simp)); refine hK _ ?_; clear hK K))
            (first | (refine Go.Flo.fw_calm rfl ?_ (fun K hK => ?_); (first | exact Go.Mix.wanted_none rfl | exact Go.Mix.wanted_tt rfl rfl rfl | exact Go.Mix.wanted_ff rfl rfl rfl); go_big_quiet_op; refine hK _ ?_; clear hK K) | (refine Go.Flo.fw_skip ?_ (fun K hK => ?_); (first | exact Go.Mix.wanted_tf rfl rfl rfl | exact Go.Mix.wanted_ft rfl rfl rfl); go_simp; refine hK _ ?_; clear hK K) | (refine Go.Flo.fw_any rfl ?_ (fun K hK => ?_); (first | exact Go.Mix.wanted_none rfl | exact Go.Mix.wanted_tt rfl rfl rfl | exact Go.Mix.wanted_ff rfl rfl rfl); go_simp; (try (go_ints; try go_simp)); refine hK _ ?_; clear hK K))
            (first | (refine Go.Flo.fw_calm rfl ?_ (fun K hK => ?_); (first | exact Go.Mix.wanted_none rfl | exact Go.Mix.wanted_tt rfl rfl rfl | exact Go.Mix.wanted_ff rfl rfl rfl); go_big_quiet_op; refine hK _ ?_; clear hK K) | (refine Go.Flo.fw_skip ?_ (fun K hK => ?_); (first | exact Go.Mix.wanted_tf rfl rfl rfl | exact Go.Mix.wanted_ft rfl rfl rfl); go_simp; refine hK _ ?_; clear hK K) | (refine Go.Flo.fw_any rfl ?_ (fun K hK => ?_); (first | exact Go.Mix.wanted_none rfl | exact Go.Mix.wanted_tt rfl rfl rfl | exact Go.Mix.wanted_ff rfl rfl rfl); go_simp; (try (go_ints; try go_simp)); refine hK _ ?_; clear hK K))
            (first | (refine Go.Flo.fw_calm rfl ?_ (fun K hK => ?_); (first | exact Go.Mix.wanted_none rfl | exact Go.Mix.wanted_tt rfl rfl rfl | exact Go.Mix.wanted_ff rfl rfl rfl); go_big_quiet_op; refine hK _ ?_; clear hK K) | (refine Go.Flo.fw_skip ?_ (fun K hK => ?_); (first | exact Go.Mix.wanted_tf rfl rfl rfl | exact Go.Mix.wanted_ft rfl rfl rfl); go_simp; refine hK _ ?_; clear hK K) | (refine Go.Flo.fw_any rfl ?_ (fun K hK => ?_); (first | exact Go.Mix.wanted_none rfl | exact Go.Mix.wanted_tt rfl rfl rfl | exact Go.Mix.wanted_ff rfl rfl rfl); go_simp; (try (go_ints; try go_simp)); refine hK _ ?_; clear hK K))
            (first | (refine Go.Flo.fw_calm rfl ?_ (fun K hK => ?_); (first | exact Go.Mix.wanted_none rfl | exact Go.Mix.wanted_tt rfl rfl rfl | exact Go.Mix.wanted_ff rfl rfl rfl); go_big_quiet_op; refine hK _ ?_; clear hK K) | (refine Go.Flo.fw_skip ?_ (fun K hK => ?_); (first | exact Go.Mix.wanted_tf rfl rfl rfl | exact Go.Mix.wanted_ft rfl rfl rfl); go_simp; refine hK _ ?_; clear hK K) | (refine Go.Flo.fw_any rfl ?_ (fun K hK => ?_); (first | exact Go.Mix.wanted_none rfl | exact Go.Mix.wanted_tt rfl rfl rfl | exact Go.Mix.wanted_ff rfl rfl rfl); go_simp; (try (go_ints; try go_simp)); refine hK _ ?_; clear hK K))
            (first | (refine Go.Flo.fw_calm rfl ?_ (fun K hK => ?_); (first | exact Go.Mix.wanted_none rfl | exact Go.Mix.wanted_tt rfl rfl rfl | exact Go.Mix.wanted_ff rfl rfl rfl); go_big_quiet_op; refine hK _ ?_; clear hK K) | (refine Go.Flo.fw_skip ?_ (fun K hK => ?_); (first | exact Go.Mix.wanted_tf rfl rfl rfl | exact Go.Mix.wanted_ft rfl rfl rfl); go_simp; refine hK _ ?_; clear hK K) | (refine Go.Flo.fw_any rfl ?_ (fun K hK => ?_); (first | exact Go.Mix.wanted_none rfl | exact Go.Mix.wanted_tt rfl rfl rfl | exact Go.Mix.wanted_ff rfl rfl rfl); go_simp; (try (go_ints; try go_simp)); refine hK _ ?_; clear hK K))
            (first | (refine Go.Flo.fw_calm rfl ?_ (fun K hK => ?_); (first | exact Go.Mix.wanted_none rfl | exact Go.Mix.wanted_tt rfl rfl rfl | exact Go.Mix.wanted_ff rfl rfl rfl); go_big_quiet_op; refine hK _ ?_; clear hK K) | (refine Go.Flo.fw_skip ?_ (fun K hK => ?_); (first | exact Go.Mix.wanted_tf rfl rfl rfl | exact Go.Mix.wanted_ft rfl rfl rfl); go_simp; refine hK _ ?_; clear hK K) | (refine Go.Flo.fw_any rfl ?_ (fun K hK => ?_); (first | exact Go.Mix.wanted_none rfl | exact Go.Mix.wanted_tt rfl rfl rfl | exact Go.Mix.wanted_ff rfl rfl rfl); go_simp; (try (go_ints; try go_simp)); refine hK _ ?_; clear hK K))
            (first | (refine Go.Flo.fw_calm rfl ?_ (fun K hK => ?_); (first | exact Go.Mix.wanted_none rfl | exact Go.Mix.wanted_tt rfl rfl rfl | exact Go.Mix.wanted_ff rfl rfl rfl); go_big_quiet_op; refine hK _ ?_; clear hK K) | (refine Go.Flo.fw_skip ?_ (fun K hK => ?_); (first | exact Go.Mix.wanted_tf rfl rfl rfl | exact Go.Mix.wanted_ft rfl rfl rfl); go_simp; refine hK _ ?_; clear hK K) | (refine Go.Flo.fw_any rfl ?_ (fun K hK => ?_); (first | exact Go.Mix.wanted_none rfl | exact Go.Mix.wanted_tt rfl rfl rfl | exact Go.Mix.wanted_ff rfl rfl rfl); go_simp; (try (go_ints; try go_simp)); refine hK _ ?_; clear hK K))
            refine Go.Flo.fw_loud rfl ?_ rfl (by simp) (fun wv hwv hav K hK => ?_) (fun v hv K hK => ?_)
            · (first | exact Go.Mix.wanted_none rfl | exact Go.Mix.wanted_tt rfl rfl rfl | exact Go.Mix.wanted_ff rfl rfl rfl)
            · obtain ⟨iv, rfl⟩ := hwv
              have hbv := HW.out iv
              (first | go_big_op | go_simp)
              go_at_call 68
              refine (Bs.Has_any sn u _ hsl).mono ?_
              rintro e w' ⟨rfl, hb⟩
              rw [HHAS.out]
              exact hK _ _ (Go.Flo.owes_is _ rfl hb)
            obtain rfl := hv.is
            go_simp
            refine hK _ ?_
            clear hK K hv
            (first | (refine Go.Flo.fw_calm rfl ?_ (fun K hK => ?_); (first | exact Go.Mix.wanted_none rfl | exact Go.Mix.wanted_tt rfl rfl rfl | exact Go.Mix.wanted_ff rfl rfl rfl); go_big_quiet_op; refine hK _ ?_; clear hK K) | (refine Go.Flo.fw_skip ?_ (fun K hK => ?_); (first | exact Go.Mix.wanted_tf rfl rfl rfl | exact Go.Mix.wanted_ft rfl rfl rfl); go_simp; refine hK _ ?_; clear hK K) | (refine Go.Flo.fw_any rfl ?_ (fun K hK => ?_); (first | exact Go.Mix.wanted_none rfl | exact Go.Mix.wanted_tt rfl rfl rfl | exact Go.Mix.wanted_ff rfl rfl rfl); go_simp; (try (go_ints; try go_simp)); refine hK _ ?_; clear hK K))
            (first | (refine Go.Flo.fw_calm rfl ?_ (fun K hK => ?_); (first | exact Go.Mix.wanted_none rfl | exact Go.Mix.wanted_tt rfl rfl rfl | exact Go.Mix.wanted_ff rfl rfl rfl); go_big_quiet_op; refine hK _ ?_; clear hK K) | (refine Go.Flo.fw_skip ?_ (fun K hK => ?_); (first | exact Go.Mix.wanted_tf rfl rfl rfl | exact Go.Mix.wanted_ft rfl rfl rfl); go_simp; refine hK _ ?_; clear hK K) | (refine Go.Flo.fw_any rfl ?_ (fun K hK => ?_); (first | exact Go.Mix.wanted_none rfl | exact Go.Mix.wanted_tt rfl rfl rfl | exact Go.Mix.wanted_ff rfl rfl rfl); go_simp; (try (go_ints; try go_simp)); refine hK _ ?_; clear hK K))
            (refine Go.Flo.fw_calm rfl ?_ (fun K hK => ?_); (first | exact Go.Mix.wanted_none rfl | exact Go.Mix.wanted_tt rfl rfl rfl | exact Go.Mix.wanted_ff rfl rfl rfl); refine Go.Flo.quiet_load_row 133 _ rfl gp rfl _ (Pl.cs P2) _ (by rintro _ ⟨i, rfl⟩; exact ((HW.out i).block gp hgp).trans HP7.out) Try.underlying133 rfl (size_pl _) ?_; go_simp; refine hK _ ?_; clear hK K)
            (first | (refine Go.Flo.fw_calm rfl ?_ (fun K hK => ?_); (first | exact Go.Mix.wanted_none rfl | exact Go.Mix.wanted_tt rfl rfl rfl | exact Go.Mix.wanted_ff rfl rfl rfl); go_big_quiet_op; refine hK _ ?_; clear hK K) | (refine Go.Flo.fw_skip ?_ (fun K hK => ?_); (first | exact Go.Mix.wanted_tf rfl rfl rfl | exact Go.Mix.wanted_ft rfl rfl rfl); go_simp; refine hK _ ?_; clear hK K) | (refine Go.Flo.fw_any rfl ?_ (fun K hK => ?_); (first | exact Go.Mix.wanted_none rfl | exact Go.Mix.wanted_tt rfl rfl rfl | exact Go.Mix.wanted_ff rfl rfl rfl); go_simp; (try (go_ints; try go_simp)); refine hK _ ?_; clear hK K))
            (first | (refine Go.Flo.fw_calm rfl ?_ (fun K hK => ?_); (first | exact Go.Mix.wanted_none rfl | exact Go.Mix.wanted_tt rfl rfl rfl | exact Go.Mix.wanted_ff rfl rfl rfl); go_big_quiet_op; refine hK _ ?_; clear hK K) | (refine Go.Flo.fw_skip ?_ (fun K hK => ?_); (first | exact Go.Mix.wanted_tf rfl rfl rfl | exact Go.Mix.wanted_ft rfl rfl rfl); go_simp; refine hK _ ?_; clear hK K) | (refine Go.Flo.fw_any rfl ?_ (fun K hK => ?_); (first | exact Go.Mix.wanted_none rfl | exact Go.Mix.wanted_tt rfl rfl rfl | exact Go.Mix.wanted_ff rfl rfl rfl); go_simp; (try (go_ints; try go_simp)); refine hK _ ?_; clear hK K))
            refine Go.Flo.fw_loud rfl ?_ rfl (by simp) (fun wv hwv hav K hK => ?_) (fun v hv K hK => ?_)
            · (first | exact Go.Mix.wanted_none rfl | exact Go.Mix.wanted_tt rfl rfl rfl | exact Go.Mix.wanted_ff rfl rfl rfl)
            · obtain ⟨iv, rfl⟩ := hwv
              have hbv := HW.out iv
              (first | go_big_op | go_simp)
              go_at_call 66
              refine (pAt P2 u _ HOK2.out.n s1 l1 b1 _ _ HA.out.1 rfl rfl).mono ?_
              rintro e w' ⟨rfl, hb⟩
              exact hK _ _ (Go.Flo.owes_is _ rfl hb)
            obtain rfl := hv.is
            go_simp
            refine hK _ ?_
            clear hK K hv
            (refine Go.Flo.fw_calm rfl ?_ (fun K hK => ?_); (first | exact Go.Mix.wanted_none rfl | exact Go.Mix.wanted_tt rfl rfl rfl | exact Go.Mix.wanted_ff rfl rfl rfl); refine Go.Flo.quiet_load_row 133 _ rfl gq rfl _ (Pl.cs q) _ (by rintro _ ⟨i, rfl⟩; exact ((HW.out i).block gq hgq).trans HQ7.out) Try.underlying133 rfl (size_pl _) ?_; go_simp; refine hK _ ?_; clear hK K)
            (first | (refine Go.Flo.fw_calm rfl ?_ (fun K hK => ?_); (first | exact Go.Mix.wanted_none rfl | exact Go.Mix.wanted_tt rfl rfl rfl | exact Go.Mix.wanted_ff rfl rfl rfl); go_big_quiet_op; refine hK _ ?_; clear hK K) | (refine Go.Flo.fw_skip ?_ (fun K hK => ?_); (first | exact Go.Mix.wanted_tf rfl rfl rfl | exact Go.Mix.wanted_ft rfl rfl rfl); go_simp; refine hK _ ?_; clear hK K) | (refine Go.Flo.fw_any rfl ?_ (fun K hK => ?_); (first | exact Go.Mix.wanted_none rfl | exact Go.Mix.wanted_tt rfl rfl rfl | exact Go.Mix.wanted_ff rfl rfl rfl); go_simp; (try (go_ints; try go_simp)); refine hK _ ?_; clear hK K))
            (first | (refine Go.Flo.fw_calm rfl ?_ (fun K hK => ?_); (first | exact Go.Mix.wanted_none rfl | exact Go.Mix.wanted_tt rfl rfl rfl | exact Go.Mix.wanted_ff rfl rfl rfl); go_big_quiet_op; refine hK _ ?_; clear hK K) | (refine Go.Flo.fw_skip ?_ (fun K hK => ?_); (first | exact Go.Mix.wanted_tf rfl rfl rfl | exact Go.Mix.wanted_ft rfl rfl rfl); go_simp; refine hK _ ?_; clear hK K) | (refine Go.Flo.fw_any rfl ?_ (fun K hK => ?_); (first | exact Go.Mix.wanted_none rfl | exact Go.Mix.wanted_tt rfl rfl rfl | exact Go.Mix.wanted_ff rfl rfl rfl); go_simp; (try (go_ints; try go_simp)); refine hK _ ?_; clear hK K))
            refine Go.Flo.fw_loud rfl ?_ rfl (by simp) (fun wv hwv hav K hK => ?_) (fun v hv K hK => ?_)
            · (first | exact Go.Mix.wanted_none rfl | exact Go.Mix.wanted_tt rfl rfl rfl | exact Go.Mix.wanted_ff rfl rfl rfl)
            · obtain ⟨iv, rfl⟩ := hwv
              have hbv := HW.out iv
              (first | go_big_op | go_simp)
              go_at_call 66
              refine (pAt q u _ HOK3.out.n s2 l2 b2 _ _ HA.out.2 rfl rfl).mono ?_
              rintro e w' ⟨rfl, hb⟩
              exact hK _ _ (Go.Flo.owes_is _ rfl hb)
            obtain rfl := hv.is
            go_simp
            refine hK _ ?_
            clear hK K hv
            have hne := HNE.out
            (first | (refine Go.Flo.fw_calm rfl ?_ (fun K hK => ?_); (first | exact Go.Mix.wanted_none rfl | exact Go.Mix.wanted_tt rfl rfl rfl | exact Go.Mix.wanted_ff rfl rfl rfl); go_big_quiet_op; refine hK _ ?_; clear hK K) | (refine Go.Flo.fw_skip ?_ (fun K hK => ?_); (first | exact Go.Mix.wanted_tf rfl rfl rfl | exact Go.Mix.wanted_ft rfl rfl rfl); go_simp; refine hK _ ?_; clear hK K) | (refine Go.Flo.fw_any rfl ?_ (fun K hK => ?_); (first | exact Go.Mix.wanted_none rfl | exact Go.Mix.wanted_tt rfl rfl rfl | exact Go.Mix.wanted_ff rfl rfl rfl); go_simp; (try (go_ints; try go_simp)); refine hK _ ?_; clear hK K))
            clear hne
            (first | (refine Go.Flo.fw_calm rfl ?_ (fun K hK => ?_); (first | exact Go.Mix.wanted_none rfl | exact Go.Mix.wanted_tt rfl rfl rfl | exact Go.Mix.wanted_ff rfl rfl rfl); go_big_quiet_op; refine hK _ ?_; clear hK K) | (refine Go.Flo.fw_skip ?_ (fun K hK => ?_); (first | exact Go.Mix.wanted_tf rfl rfl rfl | exact Go.Mix.wanted_ft rfl rfl rfl); go_simp; refine hK _ ?_; clear hK K) | (refine Go.Flo.fw_any rfl ?_ (fun K hK => ?_); (first | exact Go.Mix.wanted_none rfl | exact Go.Mix.wanted_tt rfl rfl rfl | exact Go.Mix.wanted_ff rfl rfl rfl); go_simp; (try (go_ints; try go_simp)); refine hK _ ?_; clear hK K))
            refine Go.Flo.fw_nil ?_
            intro w9 hww9 hfw9 huw9
            refine Go.Flo.tw_nil ?_
            obtain ⟨iend, hiend⟩ := hww9
            have hbw9 := HW.out iend
            rw [← hiend] at hbw9
            clear hiend iend huw9
            have HP8 := Lib.hid (PlB.below HP7.out hbw9 (Nat.le_refl _))
            have HQ8 := Lib.hid (PlB.below HQ7.out hbw9 (Nat.le_refl _))
            have HO8 := Lib.hid (own_keep2 HO7.out hbw9)
            have HB8 := Lib.hid (HB7.out.trans (hbw9.mono HB7.out.size))
            have g8 := box_below g7 hbw9 (box_lt g7)
            clear hfw9 HJ HW hne k0 k1 d0 d1 hbw9 HP7 HQ7 HO7 HB7 g7 hgol hgp hgq
            clear W I
            have d0 := cell_of_row _ _ 0 _ _ _ g8
            have hr1 := rd_one w9 u 3
            have HR1 := Lib.hid hr1
            have hal : Below w9.heap.size w9 (w9.alloc (.cells #[.int .i64 ((u : Nat) : Int)] 3)) := (Below.refl _ _).alloc (Nat.le_refl _) _
            clear hr1
            go_wp2_with fail
            go_at_call 69
            refine (Bs.With_any _ 1 1 _ sn [((u : Nat) : Int)] _ hsl rfl (Nat.le_refl _) HR1.out).mono ?_
            rintro e w6 ⟨rfl, hb⟩
            have hb6 := hal.trans (hb.mono (by simp))
            have HF6 := Lib.hid (And.intro (PlB.below HP8.out hb6 (Nat.le_refl _)) (And.intro (PlB.below HQ8.out hb6 (Nat.le_refl _)) (And.intro (own_keep2 HO8.out hb6) (HB8.out.trans (hb6.mono HB8.out.size)))))
            clear hb hal HR1 hb6 d0 g8 HP8 HQ8 HO8 HB8
            go_wp2_with fail
            go_roundw
            case rel => exact ⟨k + 1, by omega, by go_num, by rw [HNX.out], HF6.out⟩
            case measure => simp [intOf]; omega
          · obtain rfl : k = out.length := by omega
            have HQ7 := Lib.hid hQ
            have HB7 := Lib.hid hB
            have HR7 := Lib.hid ((HRD.out.below hB).mono hB.size)
            clear hP hO hB hsn
            go_wp2_with (refine wpList_load_row rfl 133 _ rfl _ rfl _ _ _ _ hQ Try.underlying133 rfl (by exact size_pl _) ?_; (try go_simp))
            go_at_call 62
            have hcall := pOrder q a3 a2 n2 cap2 l wr HOK3.out.n HLL.out HR7.out (by omega)
            rw [HAG.out.1] at hcall
            have hok4 : (ordAll a3 q l).1.Ok := Pl.Ok.allA l [] HOK3.out
            obtain ⟨P4, hP4⟩ : ∃ p, p = (ordAll a3 q l).1 := ⟨_, rfl⟩
            have hsame : P4.cs = q.cs := by rw [hP4, ← HAG.out.2]
            rw [← hP4] at hcall hok4
            rw [show ([] : List Nat).length = 0 from rfl] at hcall
            have HOK4 := Lib.hid (And.intro hok4 hsame)
            with_reducible refine hcall.mono ?_
            clear hcall hP4 hok4 hsame
            rintro e w6 ⟨v, rfl, hown, hb⟩
            obtain ⟨va6, vc6, rfl⟩ := own_form2 hown
            have HQ8 := (PlB.below HQ7.out hb (Nat.le_refl _)).alloc (.cells P4.cs 133)
            have HN4 := PlB.new w6 P4
            have HB8 := Lib.hid ((HB7.out.trans (hb.mono HB7.out.size)).alloc (Nat.le_trans HB7.out.size hb.size) (.cells P4.cs 133))
            clear hown hb HQ7 HB7 hQ HR7
            go_wp2_with (first | (refine wpList_store_row rfl 133 _ _ rfl _ (Pl.cs _) rfl rfl 133 _ (heap_alloc_new w6 (.cells (Pl.empty 0).cs 133)) (size_pl _) (by simp only [Pl.size]) (Pl.one _) ?_; rw [World.setRow_alloc_new]; (try go_simp)) | (refine wpLoadW (by (first | exact Go.Mix.wanted_none rfl | exact Go.Mix.wanted_tt rfl rfl rfl | exact Go.Mix.wanted_ff rfl rfl rfl)) 133 _ rfl _ rfl _ _ _ _ HN4 Try.underlying133 rfl (size_pl _) ?_; (try go_simp)) | (refine wpLoadW (by (first | exact Go.Mix.wanted_none rfl | exact Go.Mix.wanted_tt rfl rfl rfl | exact Go.Mix.wanted_ff rfl rfl rfl)) 133 _ rfl _ rfl _ _ _ _ HQ8 Try.underlying133 rfl (size_pl _) ?_; (try go_simp)))
            go_at_call 63
            refine (pSame P4 q HOK4.out.1 HOK3.out true ⟨fun _ => HOK4.out.2, fun _ => rfl⟩ _).mono ?_
            rintro e w7 ⟨rfl, hb⟩
            have HB9 := Lib.hid (HB8.out.trans (hb.mono HB8.out.size))
            clear hb HB8 HQ8 HN4
            go_wp2
            go_ret
            exact ⟨rfl, HB9.out⟩
end Go.Proofs.Ytkcpeefnlmmilaa
