/- Layer 16: sleeps: the law. -/
import Derived.Test.YtkgeeohgfbacaaaLaw16s
namespace Go.Proofs.Ytkgeeohgfbacaaa
open Go.RowKit Go.Own
set_option linter.unusedVariables false
set_option linter.unusedSimpArgs false
theorem Mn.mix_step (p : Mn) (ps : Nat → Int) {k : Nat} (h : k < p.n) : (fun j => if j = k then (p.nx ps k).st else p.mix ps k j) = p.mix ps (k + 1) := by
  funext i
  unfold Mn.mix
  by_cases e : i = k
  · subst e
    rw [if_pos rfl, if_pos h, if_pos (by omega)]
  · rw [if_neg e]
    split
    · by_cases h2 : i < k
      · rw [if_pos h2, if_pos (by omega)]
      · rw [if_neg h2, if_neg (by omega)]
    · rfl
theorem ChO.low {w wr : World} {v : Value} {l : List Cg} (h : ChO w wr v l) {f : Nat} (hf : f < w.heap.size + 3) (i : Nat) (x : Value) : ChO w (wr.setCell ⟨f, i, none⟩ x) v l := by
  obtain ⟨h1, h2 | ⟨g', cap, cur, hv, hb', hr, ho⟩⟩ := h
  · exact ⟨h1, .inl h2⟩
  · exact ⟨h1, .inr ⟨g', cap, cur, hv, hb', (heap_setCell_other wr ⟨f, i, none⟩ g' x (by show g' ≠ f; omega)).trans hr, ho⟩⟩
theorem Mn.vios_at (p : Mn) : ∀ k (j : Nat), j < (p.vios k).length → (p.vios k).getD j 0 < k ∧ (p.x ((p.vios k).getD j 0)).r.en = true ∧ 2 ≤ (p.x ((p.vios k).getD j 0)).st
  | 0, j, h => absurd h (by simp [Mn.vios])
  | k + 1, j, h => by
    rw [Mn.vios] at h ⊢
    by_cases h1 : j < (p.vios k).length
    · have := p.vios_at k j h1
      rw [show ((p.vios k) ++ (if p.vi k = true then [k] else [])).getD j 0 = (p.vios k).getD j 0 by simp [List.getD, List.getElem?_append, h1]]
      exact ⟨by omega, this.2⟩
    · by_cases hv : p.vi k = true
      · rw [if_pos hv] at h ⊢
        have e : j = (p.vios k).length := by simp at h; omega
        subst e
        rw [show ((p.vios k) ++ [k]).getD (p.vios k).length 0 = k by simp [List.getD]]
        unfold Mn.vi vio at hv
        simp only [Bool.and_eq_true, Bool.or_eq_true, decide_eq_true_eq] at hv
        exact ⟨by omega, hv.1, by rcases hv.2 with (h | h) | h <;> omega⟩
      · rw [if_neg hv, List.append_nil] at h
        exact absurd h h1
theorem Mn.chgs_leK (p : Mn) (ps : Nat → Int) : ∀ k, (p.chgs ps k).length ≤ k
  | 0 => Nat.le_refl _
  | k + 1 => by
    have := p.chgs_leK ps k
    rw [Mn.chgs, List.length_append]
    split <;> simp <;> omega
theorem nl_at (l : List Nat) (j : Nat) (h : j < l.length) : (nl l)[j]? = some (.int .i64 ((l.getD j 0 : Nat) : Int)) := by
  simp [nl, List.getD, h]
theorem own_cellsN {w : World} {base m : Nat} {v : Value} {l : List Nat} (h : w.ownsRow base 3 1 v m (nl l)) (hl : l.length = m) (h0 : 0 < m) : ∃ g c, v = .slice (some ⟨g, 0, none⟩) m c ∧ g < w.heap.size ∧ ∀ i, i < m → w.cell? ⟨g, i, none⟩ = some (.int .i64 ((l.getD i 0 : Nat) : Int)) := by
  rcases h.2 with ⟨hv, hx⟩ | ⟨g, cap, cur, hv, hb, hg, hn, hm, hs, ht⟩
  · omega
  · refine ⟨g, cap, hv, box_lt hg, fun i hi => ?_⟩
    rw [cell_of_row w g i _ _ _ hg]
    have e := nl_at l i (by omega)
    rw [← ht, List.getElem?_take, if_pos (by omega)] at e
    simpa using e
theorem own_formN {w : World} {base m : Nat} {e : TypeId} {size : Nat} {v : Value} {xs : List Value} (h : w.ownsRow base e size v m xs) : ∃ a c, v = .slice a m c := by
  rcases h.2 with ⟨hv, hx⟩ | ⟨g, cap, cur, hv, _⟩
  · exact ⟨none, 0, by rw [hv, hx]⟩
  · exact ⟨_, _, hv⟩
theorem Mn.stat_in (p : Mn) {k : Nat} (h : k < p.n) : p.stat (k : Int) = p.sts k := by
  unfold Mn.stat Mn.has Mn.sts
  rw [if_pos h, if_pos (by simp; omega)]
  rfl
set_option maxRecDepth 100000 in
set_option maxHeartbeats 8000000 in
theorem walk_MonitorSleeps (a0 : Option Addr) (len0 cap0 : Nat) (a1 : Option Addr) (len1 cap1 : Nat) (w : World) (w0 : IsFlat [.int .u8, .int .i64, .int .i32, .int .i32, .int .u32, .int .u32, .int .u8, .int .u8, .int .u8, .int .i64, .bool] w a0 len0 cap0) (w1 : IsFlat [.int .i32, .int .i32, .int .i32, .int .i32, .int .i32, .int .i32, .int .i32, .int .i32, .int .i32, .int .i32, .int .i32, .int .i32, .int .i32, .int .i32, .int .i32, .int .i32] w a1 len1 cap1) :
    Calls Try.prog 8 #[.slice a0 len0 cap0, .slice a1 len1 cap1] w fun e w' => e = .returned (.bool true) ∧ Below w.heap.size w w' := by
  obtain ⟨P, hP⟩ := pas_flat w1
  obtain ⟨rr, hru, hrok⟩ := rus_flatS w0
  have h1 := hP.le
  have h2 := hP.top
  unfold maxLen at h2
  have HPA := Lib.hid hP
  have HRU := Lib.hid hru
  have HROK := Lib.hid hrok
  clear w0 w1 hP hru hrok
  go_enter Try.func8, Try.ntmps8
  go_wp2_with fail
  go_at_call 52
  refine (awake16 _).mono ?_
  rintro e wb ⟨rfl, hb1⟩
  have HB1 := Lib.hid hb1
  have HRU1 := Lib.hid (HRU.out.below hb1 (Nat.le_refl _))
  clear hb1 HRU
  go_wp2_with fail
  go_at_call 53
  refine (lRules a0 len0 cap0 rr _ HRU1.out HROK.out).mono ?_
  rintro e wc ⟨a, n, cap, r, x, rfl, hru, hn16, hall, hb⟩
  have HB2 := Lib.hid (HB1.out.trans (hb.mono HB1.out.size))
  have HR := Lib.hid hru
  have HALL := Lib.hid hall
  clear HRU1 HROK HB1 hb hru hall
  go_wp2_with fail
  go_at_call 54
  refine (mNew a n cap r _ HR.out (fun i hi => (HALL.out i hi).1)).mono ?_
  rintro e wd ⟨hb, ⟨_, rfl⟩ | ⟨hno, _⟩⟩
  case inr => exact absurd (show newOk n r from ⟨hn16, fun i hi => (HALL.out i hi).2⟩) hno
  have HB3 := Lib.hid (HB2.out.trans (hb.mono HB2.out.size))
  have HR3 := Lib.hid (HR.out.below hb (Nat.le_refl _))
  clear hb HB2 HR
  go_upto_region 5 with (refine wpList_store_row rfl 124 _ _ rfl _ (Mn.cs _) rfl rfl 124 _ (heap_alloc_new wd (.cells (Mn.empty 0).cs 124)) (size_mn _) (by simp only [Mn.size]) (Mn.one _) ?_; rw [World.setRow_alloc_new]; (try go_simp))
  go_upto_region 8 with fail
  have hS0 : SSt wd ((wd.alloc (.cells (Mn.part n r n).cs 124)).alloc (.cells (#[.int .u8 0, .int .u8 0, .int .u8 0, .int .u8 0, .int .u8 0, .int .u8 0, .int .u8 0, .int .u8 0, .int .u8 0, .int .u8 0, .int .u8 0, .int .u8 0, .int .u8 0, .int .u8 0, .int .u8 0, .int .u8 0] : Array Value) 127)) wd.heap.size (wd.heap.size + 1) (Mn.part n r n) (Mn.sts (Mn.part n r n)) :=
    ⟨by repeat' (first | (with_reducible exact Below.refl _ _) | (with_reducible assumption) | (with_reducible refine Below.setCell ?_ ?_ _) | (with_reducible refine Below.alloc ?_ ?_ _) | (with_reducible refine Below.drew ?_) | (with_reducible refine Below.drawsN ?_ _) | go_size), (MnB.new wd _).alloc _, by rw [part_sts, ← scs_zero]; exact heap_alloc2_new _ _ _, Nat.le_refl _, by omega, by omega⟩
  have hp0 : (Mn.part n r n).ok ∧ (Mn.part n r n).n = n ∧ ∀ i, i < n → ((Mn.part n r n).x i).r = r i := part_ok hn16 HALL.out
  have H0 := Lib.hid (And.intro hS0 hp0)
  have HPA3 := Lib.hid (HPA.out.below HB3.out (Nat.le_refl _))
  clear hS0 hp0 HPA
  obtain ⟨gs, hgs⟩ : ∃ g, g = wd.heap.size + 1 := ⟨_, rfl⟩
  obtain ⟨gm, hgm⟩ : ∃ g, g = wd.heap.size := ⟨_, rfl⟩
  obtain ⟨ws, hws⟩ : ∃ ws, ws = ((wd.alloc (.cells (Mn.part n r n).cs 124)).alloc (.cells (#[.int .u8 0, .int .u8 0, .int .u8 0, .int .u8 0, .int .u8 0, .int .u8 0, .int .u8 0, .int .u8 0, .int .u8 0, .int .u8 0, .int .u8 0, .int .u8 0, .int .u8 0, .int .u8 0, .int .u8 0, .int .u8 0] : Array Value) 127)) := ⟨_, rfl⟩
  rw [← hgs, ← hgm, ← hws] at H0
  rw [← hgs, ← hgm, ← hws]
  clear hgs hgm hws
  obtain ⟨p0, hp0⟩ : ∃ p, p = Mn.part n r n := ⟨_, rfl⟩
  rw [← hp0] at H0 ⊢
  clear hp0
  go_wp2_with fail
  go_loopw [35] (fun i wr => ∃ (k : Nat) (p : Mn), k ≤ len1 ∧ i = .int .i64 (k : Nat) ∧ SSt wd wr gm gs p p.sts ∧ p.ok ∧ p.n = n ∧ ∀ i, i < n → (p.x i).r = r i) (fun i _ => len1 - (intOf i).toNat)
  case atStart => exact ⟨0, p0, by omega, rfl, H0.out.1, H0.out.2.1, H0.out.2.2.1, H0.out.2.2.2⟩
  case round =>
    obtain ⟨k, p, hk, rfl, hS, hok, hpn, hpr⟩ := hrel
    clear H0
    have HS := Lib.hid hS
    have HP := Lib.hid (And.intro hok (And.intro hpn hpr))
    clear hS hok hpn hpr
    by_cases hlt : k < len1
    · obtain ⟨bb, off, rfl, hbb, hc⟩ := HPA3.out.at_ (by omega)
      have hrg := rangeAt_below (hc k hlt) HS.out.be hbb
      have hps := HPA3.out.ok k hlt
      obtain ⟨ps, hpse⟩ : ∃ ps, ps = P k := ⟨_, rfl⟩
      rw [← hpse] at hrg hps
      have HPS := Lib.hid hps
      clear hc hpse hps
      go_upto_region 11 with (first | (refine wpList_load_mid rfl 128 _ rfl bb (off + k * 16) rfl (pcs ps).toList _ hrg Try.underlying128 rfl (size_pcs ps) ?_; rw [Array.toArray_toList]; go_simp) | (refine wpList_store_row rfl 128 _ _ rfl _ (pcs _) rfl rfl 128 _ (heap_alloc_new wr (.cells (#[.int .i32 0, .int .i32 0, .int .i32 0, .int .i32 0, .int .i32 0, .int .i32 0, .int .i32 0, .int .i32 0, .int .i32 0, .int .i32 0, .int .i32 0, .int .i32 0, .int .i32 0, .int .i32 0, .int .i32 0, .int .i32 0] : Array Value) 128)) (size_pcs _) (by simp only [pcs_size]; rfl) (pcs_one _) ?_; rw [World.setRow_alloc_new]; (try go_simp)))
      have hal : Below wr.heap.size wr (wr.alloc (.cells (pcs ps) 128)) := (Below.refl _ _).alloc (Nat.le_refl _) _
      have g3 := heap_alloc_new wr (.cells (pcs ps) 128)
      have HS2 := Lib.hid (HS.out.step hal)
      obtain ⟨ga, hga⟩ : ∃ g, g = wr.heap.size := ⟨_, rfl⟩
      obtain ⟨w2, hw2⟩ : ∃ w2, w2 = wr.alloc (.cells (pcs ps) 128) := ⟨_, rfl⟩
      rw [← hw2] at g3 HS2
      rw [← hga] at g3
      rw [← hw2, ← hga]
      clear hw2 hga hal HS hrg
      by_cases h30 : 30 ≤ k
      · have HBE := Lib.hid (HB3.out.trans (HS2.out.be.mono HB3.out.size))
        clear g3
        go_wp2
        go_ret
        exact ⟨rfl, HBE.out⟩
      have hlt30 : k < 30 := by omega
      clear h30
      have hbm := HS2.out.bm
      go_wp2_with (first | (refine wpList_load_row rfl 124 _ rfl _ rfl _ _ _ _ hbm Try.underlying124 rfl (by exact size_mn _) ?_; (try go_simp)) | (refine wpList_load_row rfl 128 _ rfl _ rfl _ _ _ _ g3 Try.underlying128 rfl (by exact size_pcs _) ?_; (try go_simp)))
      go_at_call 55
      refine (mStep p ps _ HP.out.1 HPS.out).mono ?_
      rintro e w3 ⟨z, rfl, ho, hb⟩
      obtain ⟨za, zc, rfl⟩ := cho_len ho
      obtain ⟨p2, hp2⟩ : ∃ p2, p2 = p.stepTo ps p.n := ⟨_, rfl⟩
      rw [← hp2]
      have HP2 := Lib.hid hp2
      have HS3 := Lib.hid (HS2.out.step hb)
      have hmx : gm < w2.heap.size + 3 := by have := box_lt HS2.out.bm; omega
      have HO3 := Lib.hid (ho.row (f := gm) hmx p2.cs)
      have HSZ := Lib.hid (show gs < w2.heap.size from box_lt HS2.out.bs)
      clear hp2 ho hb hbm g3 HS2
      have hbm := HS3.out.bm
      go_upto_region 14 with (refine wpList_store_row rfl 124 _ _ rfl _ (Mn.cs _) rfl rfl 124 _ hbm (size_mn _) (by simp only [Mn.size]) (Mn.one _) ?_; (try go_simp))
      have HS4 := Lib.hid (HS3.out.put p2)
      obtain ⟨w4, hw4⟩ : ∃ w4, w4 = w3.setRow gm p2.cs := ⟨_, rfl⟩
      rw [← hw4] at HS4 HO3 ⊢
      clear hw4 hbm HS3
      obtain ⟨m, hm⟩ : ∃ m, m = (p.chgs ps p.n).length := ⟨_, rfl⟩
      rw [← hm]
      have hm16 : m ≤ 16 := by have h1 := p.chgs_leK ps p.n; have h2 := HP.out.1.n; rw [← hm] at h1; omega
      have HM := Lib.hid hm
      clear hm hmx
      go_wp2_with fail
      rw [← HM.out] at HO3
      have hS5 := HS4.out
      rw [← p.mix0 ps] at hS5
      have HS5 := Lib.hid hS5
      clear hS5 HS4
      go_loopw [13, 50] (fun la i wr => ∃ (K : Nat) (last : Int), K ≤ p.n ∧ i = .int .i64 (((p.chgs ps K).length : Nat) : Int) ∧ la = .int .i64 last ∧ -1 ≤ last ∧ last < (K : Int) ∧ SSt wd wr gm gs p2 (p.mix ps K) ∧ ChO w2 wr (.slice za m zc) (p.chgs ps p.n)) (fun _ i _ => m - (intOf i).toNat)
      case atStart => exact ⟨0, -1, by omega, rfl, rfl, by omega, by omega, HS5.out, HO3.out⟩
      case round =>
        obtain ⟨K, last, hK, rfl, rfl, hl0, hl1, hS, hO⟩ := hrel
        clear HS5 HO3
        have HS := Lib.hid hS
        have HO := Lib.hid hO
        clear hS hO
        obtain ⟨j, hj⟩ : ∃ j, j = (p.chgs ps K).length := ⟨_, rfl⟩
        rw [← hj]
        have HJ := Lib.hid hj
        clear hj
        by_cases hjm : j < m
        · rcases p.chgs_next ps p.n K hK with hnone | ⟨K', hk1, hk2, hk3, hk4⟩
          · exfalso
            have := p.chgs_none ps K (p.n - K) (fun i hi h2 => hnone i hi (by omega))
            rw [show K + (p.n - K) = p.n by omega] at this
            rw [HM.out, this, ← HJ.out] at hjm
            omega
          have hjk : j = (p.chgs ps K').length := by
            have := p.chgs_none ps K (K' - K) (fun i hi h2 => hk4 i hi (by omega))
            rw [show K + (K' - K) = K' by omega] at this
            rw [HJ.out, ← this]
          have hel := p.chgs_at ps hk2 hk3
          rw [← hjk] at hel
          have hjn : (p.chgs ps (K' + 1)).length = j + 1 := by rw [Mn.chgs, if_pos hk3, List.length_append, ← hjk]; rfl
          have hyes := p.ch_yes ps hk3 (HP.out.1.x K' hk2)
          obtain ⟨gz, hza, _, hgl, hcz⟩ := cho_cells HO.out (by rw [← HM.out]; omega)
          subst hza
          have c0 := hcz (j * 4 + 0) _ (cgl_at _ j 0 _ _ hel rfl)
          have c1 := hcz (j * 4 + 1) _ (cgl_at _ j 1 _ _ hel rfl)
          have c2 := hcz (j * 4 + 2) _ (cgl_at _ j 2 _ _ hel rfl)
          have c3 := hcz (j * 4 + 3) _ (cgl_at _ j 3 _ _ hel rfl)
          rw [Nat.add_zero] at c0
          obtain ⟨f0, hf0⟩ : ∃ x, x = (p.x K').st := ⟨_, rfl⟩
          obtain ⟨t0, ht0⟩ : ∃ x, x = (p.nx ps K').st := ⟨_, rfl⟩
          obtain ⟨v0, hv0⟩ : ∃ x, x = p.arg ps K' := ⟨_, rfl⟩
          rw [← hf0, ← ht0, ← hv0] at c0 c1 c2 c3
          rw [← hf0, ← ht0] at hyes
          have hK16 : K' < 16 := by have := HP.out.1.n; omega
          have hKn : K' < n := by rw [← HP.out.2.1]; exact hk2
          have hS2 := HS.out
          rw [p.mix_skip ps hk1 hk4] at hS2
          have s0 : wr.cell? ⟨gs, K', none⟩ = some (.int .u8 f0) := by
            rw [hf0]
            refine (cell_of_row _ _ K' _ _ _ hS2.bs).trans ((scs_at _ hK16).trans ?_)
            unfold Mn.mix
            rw [if_pos hk2, if_neg (Nat.lt_irrefl _)]
          obtain ⟨ob, oo, hoa, hobl, horg⟩ := HR3.out.at_ (by omega)
          have e0 : wr.cell? ⟨ob, oo + K' * 11 + 10, none⟩ = some (.bool true) := by
            refine (HS.out.be.cell (p := ⟨ob, oo + K' * 11 + 10, none⟩) hobl).trans (horg K' hKn 10 _ ?_)
            rw [← HP.out.2.2 K' hKn, ← hyes.1]
            rfl
          subst hoa
          have h01 : (f0 == t0) = false := by have := hyes.2.1; simp; omega
          have h02 : (t0 == 0) = false := by have := hyes.2.2; simp; omega
          have HS2 := Lib.hid hS2
          have HT0 := Lib.hid (And.intro ht0 (And.intro hjn (And.intro hk2 hk1)))
          clear hS2 HS hcz hel hyes hf0 ht0 hv0 hk4 hk3 hjk hjn
          go_upto_region 18 with fail
          have hal : Below wr.heap.size wr (wr.alloc (.cells #[.int .i64 (K' : Nat), .int .u8 f0, .int .u8 t0, .int .i32 v0] 133)) := (Below.refl _ _).alloc (Nat.le_refl _) _
          have g15 := heap_alloc_new wr (.cells #[.int .i64 (K' : Nat), .int .u8 f0, .int .u8 t0, .int .i32 v0] 133)
          have HS5 := Lib.hid (HS2.out.step hal)
          have HO5 := Lib.hid (HO.out.step hal)
          have s5 := (hal.cell (p := ⟨gs, K', none⟩) (World.block_lt_of_cell? _ _ s0)).trans s0
          have e5 := (hal.cell (p := ⟨ob, oo + K' * 11 + 10, none⟩) (World.block_lt_of_cell? _ _ e0)).trans e0
          obtain ⟨w5, hw5⟩ : ∃ w5, w5 = wr.alloc (.cells #[.int .i64 (K' : Nat), .int .u8 f0, .int .u8 t0, .int .i32 v0] 133) := ⟨_, rfl⟩
          obtain ⟨gc, hgc⟩ : ∃ gc, gc = wr.heap.size := ⟨_, rfl⟩
          rw [← hw5] at g15 HS5 HO5 s5 e5
          rw [← hgc] at g15
          rw [← hw5, ← hgc]
          have d0 := cell_of_row _ _ 0 _ _ _ g15
          have d1 := cell_of_row _ _ 1 _ _ _ g15
          have d2 := cell_of_row _ _ 2 _ _ _ g15
          have hlk : ¬ (K' : Int) ≤ last := by have := HT0.out.2.2.2; omega
          clear hw5 hgc hal c0 c1 c2 c3 s0 e0 HS2 HO g15
          go_quiet (fail)
          have HS6 := Lib.hid (HS5.out.step (show Below w5.heap.size w5 (w5.drewN nq) from ⟨rfl, rfl, rfl, Nat.le_refl _, fun _ _ => rfl⟩))
          have HO6 := Lib.hid (HO5.out.step (show Below w5.heap.size w5 (w5.drewN nq) from ⟨rfl, rfl, rfl, Nat.le_refl _, fun _ _ => rfl⟩))
          have q0 : (w5.drewN nq).cell? ⟨gc, 0, none⟩ = some (.int .i64 (K' : Nat)) := d0
          have q2 : (w5.drewN nq).cell? ⟨gc, 2, none⟩ = some (.int .u8 t0) := d2
          obtain ⟨w6, hw6⟩ : ∃ w6, w6 = w5.drewN nq := ⟨_, rfl⟩
          rw [← hw6] at HS6 HO6 q0 q2 ⊢
          have f6 := frozen_of_row _ _ K' _ _ HS6.out.bs
          have s6 : w6.cell? ⟨gs, K', none⟩ = some (.int .u8 f0) := by rw [hw6]; exact s5
          have hgcs : gc ≠ gs := by
            intro e
            rw [e] at q0
            have := (cell_of_row _ _ 0 _ _ _ HS6.out.bs).symm.trans q0
            rw [scs_at _ (by omega)] at this
            injection this with this
            injection this with t1 t2
            cases t1
          have r0 : (w6.setCell ⟨gs, K', none⟩ (.int .u8 t0)).cell? ⟨gc, 0, none⟩ = some (.int .i64 (K' : Nat)) := (World.cell?_of_block (a := ⟨gc, 0, none⟩) (heap_setCell_other w6 ⟨gs, K', none⟩ gc _ hgcs)).trans q0
          have hK16i : (K' : Int) < 16 := by omega
          clear hw6 d0 d1 d2 e5 s5 HS5 HO5
          go_upto_region 20 with fail
          go_region
          have hx7 : Below (w6.setCell ⟨gs, K', none⟩ (.int .u8 t0)).heap.size (w6.setCell ⟨gs, K', none⟩ (.int .u8 t0)) (w6.setCell ⟨gs, K', none⟩ (.int .u8 t0)).drew := ⟨rfl, rfl, rfl, Nat.le_refl _, fun _ _ => rfl⟩
          have hS7 := (HS6.out.stat hK16 t0).step hx7
          have hO7 := (HO6.out.low (f := gs) (by have := HSZ.out; omega) K' (.int .u8 t0)).step hx7
          have hms := p.mix_step ps hk2
          rw [← HT0.out.1] at hms
          rw [hms] at hS7
          have HS7 := Lib.hid hS7
          have HO7 := Lib.hid hO7
          obtain ⟨w7, hw7⟩ : ∃ w7, w7 = (w6.setCell ⟨gs, K', none⟩ (.int .u8 t0)).drew := ⟨_, rfl⟩
          rw [← hw7] at HS7 HO7 ⊢
          clear hw7 hx7 hS7 hO7 hms r0 q0 q2 f6 s6 HS6 HO6
          go_wp2
          go_roundw
          case rel => exact ⟨K' + 1, K', by omega, by rw [HT0.out.2.1]; go_num, rfl, by omega, by omega, HS7.out, HO7.out⟩
          case measure => simp [intOf]; omega
        · have hmix : p.mix ps K = p2.sts := by
            rw [HP2.out, ← p.mixn ps]
            refine p.mix_skip ps hK (fun i h1 h2 => ?_)
            cases hc : p.ch ps i with
            | false => rfl
            | true =>
              exfalso
              have h3 := p.chgs_at ps h2 hc
              obtain ⟨l, hl⟩ := p.chgs_more ps i K h1
              have h4 := (List.getElem?_eq_some_iff.1 h3).1
              rw [hl, List.length_append, ← HJ.out, ← HM.out] at h4
              omega
          have hS := HS.out
          rw [hmix] at hS
          have HS2 := Lib.hid hS
          have hst := p.stepTo_ok ps HP.out.1 HPS.out
          rw [← HP2.out] at hst
          have hp2n : p2.n = n := hst.2.1.trans HP.out.2.1
          have hle : p2.n ≤ 16 := hst.1.n
          have HP3 := Lib.hid (And.intro hst.1 (And.intro hp2n (show ∀ i, i < n → (p2.x i).r = r i from fun i hi => (hst.2.2 i).trans (HP.out.2.2 i hi))))
          clear hmix hS HS HO hst HP HP2 HJ HM
          go_wp2_with fail
          go_loopw [98] (fun i wr => ∃ c : Nat, c ≤ n ∧ i = .int .i64 (c : Nat) ∧ SSt wd wr gm gs p2 p2.sts) (fun i _ => n - (intOf i).toNat)
          case atStart => exact ⟨0, by omega, rfl, HS2.out⟩
          case round =>
            obtain ⟨c, hc, rfl, hS⟩ := hrel
            have HS3 := Lib.hid hS
            clear hS HS2
            by_cases hlt3 : c < n
            · have hc16 : c < 16 := by omega
              have hc16i : (c : Int) < 16 := by omega
              obtain ⟨sv, hsv⟩ : ∃ sv, sv = p2.sts c := ⟨_, rfl⟩
              have hstat : p2.stat (c : Int) = sv := by rw [hsv]; exact p2.stat_in (by omega)
              have hcs : wr.cell? ⟨gs, c, none⟩ = some (.int .u8 sv) := by rw [hsv]; exact (cell_of_row _ _ c _ _ _ HS3.out.bs).trans (scs_at _ hc16)
              have HST := Lib.hid hstat
              clear hsv hstat
              go_upto_region 25 with fail
              have hml := box_lt HS3.out.bm
              have hgm := HS3.out.bm
              have hsl := box_lt HS3.out.bs
              unfold MnB at hgm
              obtain ⟨I, W, hne, hWI, hIW⟩ := Go.Mix.family (fun v => Below wr.heap.size wr v) (Below.refl _ _)
              have HJ := Lib.hid hIW
              have HW := Lib.hid hWI
              clear hWI hIW
              refine Go.Flo.wp_region (fun w' => ∃ i, w' = W i) 7 [Go.Flo.Spec.is (.int .u8 sv)] (by kernel_rfl) (by kernel_rfl) (by decide) (by rintro _ w' ⟨i, rfl⟩ hb; exact HJ.out _ ((HW.out i).trans (hb.mono (HW.out i).size))) (HJ.out _ (Below.refl _ _).drew) ?_
              simp only [Go.Flo.pair, Go.Mix.calm, List.take, List.drop, if_true, Bool.false_eq_true, if_false, Nat.reduceAdd, Nat.reduceSub]
              have k0 : ∀ i, (W i).cell? ⟨gs, c, none⟩ = some (.int .u8 sv) := fun i => ((HW.out i).cell (p := ⟨gs, c, none⟩) hsl).trans hcs
              (refine Go.Flo.fw_calm rfl ?_ (fun K hK => ?_); (first | exact Go.Mix.wanted_none rfl | exact Go.Mix.wanted_tt rfl rfl rfl | exact Go.Mix.wanted_ff rfl rfl rfl); refine Go.Flo.quiet_load_row 124 _ rfl gm rfl _ p2.cs _ (by rintro _ ⟨i, rfl⟩; exact ((HW.out i).block gm hml).trans hgm) Try.underlying124 rfl (size_mn p2) ?_; go_simp; refine hK _ ?_; clear hK K)
              (repeat (first | (refine Go.Flo.fw_calm rfl ?_ (fun K hK => ?_); (first | exact Go.Mix.wanted_none rfl | exact Go.Mix.wanted_tt rfl rfl rfl | exact Go.Mix.wanted_ff rfl rfl rfl); go_big_quiet_op; refine hK _ ?_; clear hK K) | (refine Go.Flo.fw_skip ?_ (fun K hK => ?_); (first | exact Go.Mix.wanted_tf rfl rfl rfl | exact Go.Mix.wanted_ft rfl rfl rfl); go_simp; refine hK _ ?_; clear hK K) | (refine Go.Flo.fw_any rfl ?_ (fun K hK => ?_); (first | exact Go.Mix.wanted_none rfl | exact Go.Mix.wanted_tt rfl rfl rfl | exact Go.Mix.wanted_ff rfl rfl rfl); go_simp; (try (go_ints; try go_simp)); refine hK _ ?_; clear hK K)))
              refine Go.Flo.fw_loud rfl ?_ rfl (by simp) (fun wv hwv hav K hK => ?_) (fun v hv K hK => ?_)
              · (first | exact Go.Mix.wanted_none rfl | exact Go.Mix.wanted_tt rfl rfl rfl | exact Go.Mix.wanted_ff rfl rfl rfl)
              · obtain ⟨iv, rfl⟩ := hwv
                have hbv := HW.out iv
                (first | go_big_op | go_simp)
                go_at_call 56
                refine (mStatus p2 (c : Int) sv _ hle HST.out).mono ?_
                rintro e w' ⟨rfl, hb⟩
                exact hK _ _ (Go.Flo.owes_is _ rfl hb)
              obtain rfl := hv.is
              go_simp
              refine hK _ ?_
              clear hK K hv
              (repeat (first | (refine Go.Flo.fw_calm rfl ?_ (fun K hK => ?_); (first | exact Go.Mix.wanted_none rfl | exact Go.Mix.wanted_tt rfl rfl rfl | exact Go.Mix.wanted_ff rfl rfl rfl); go_big_quiet_op; refine hK _ ?_; clear hK K) | (refine Go.Flo.fw_skip ?_ (fun K hK => ?_); (first | exact Go.Mix.wanted_tf rfl rfl rfl | exact Go.Mix.wanted_ft rfl rfl rfl); go_simp; refine hK _ ?_; clear hK K) | (refine Go.Flo.fw_any rfl ?_ (fun K hK => ?_); (first | exact Go.Mix.wanted_none rfl | exact Go.Mix.wanted_tt rfl rfl rfl | exact Go.Mix.wanted_ff rfl rfl rfl); go_simp; (try (go_ints; try go_simp)); refine hK _ ?_; clear hK K)))
              refine Go.Flo.fw_nil ?_
              intro w7 hww7 hfw7 huw7
              refine Go.Flo.tw_nil ?_
              obtain ⟨iend, hiend⟩ := hww7
              have hbw7 := HW.out iend
              rw [← hiend] at hbw7
              clear hiend iend huw7
              have HS7 := Lib.hid (HS3.out.step hbw7)
              clear hfw7 HJ HW hne k0 hbw7 hgm hcs HS3
              clear W I
              go_wp2
              go_roundw
              case rel => exact ⟨c + 1, by omega, by go_num, HS7.out⟩
              case measure => simp [intOf]; omega
            · have hbm := HS3.out.bm
              go_wp2_with (refine wpList_load_row rfl 124 _ rfl _ rfl _ _ _ _ hbm Try.underlying124 rfl (by exact size_mn _) ?_; (try go_simp))
              go_at_call 57
              refine (mViolated p2 _ hle).mono ?_
              rintro e w8 ⟨v8, rfl, ho8, hb8⟩
              obtain ⟨a8, c8, rfl⟩ := own_formN ho8
              have HS8 := Lib.hid (HS3.out.step hb8)
              obtain ⟨V, hV⟩ : ∃ V, V = (p2.vios p2.n).length := ⟨_, rfl⟩
              rw [← hV] at ho8 ⊢
              have hV16 : V ≤ 16 := by have := p2.vios_le p2.n; rw [← hV] at this; omega
              have HV := Lib.hid hV
              have HO8 := Lib.hid ho8
              clear hV ho8 hb8 hbm HS3
              go_wp2_with fail
              go_loopw [112] (fun i wr => ∃ d : Nat, d ≤ V ∧ i = .int .i64 (d : Nat) ∧ Below w8.heap.size w8 wr) (fun i _ => V - (intOf i).toNat)
              case atStart => exact ⟨0, Nat.zero_le _, rfl, Below.refl _ _⟩
              case round =>
                obtain ⟨d, hd, rfl, hB⟩ := hrel
                have HS9 := Lib.hid (HS8.out.step hB)
                have HB9 := Lib.hid hB
                clear hB HS8
                by_cases hltd : d < V
                · obtain ⟨gv, cv, hva, hgv, hcv⟩ := own_cellsN HO8.out HV.out.symm (by omega)
                  simp only [Value.slice.injEq, true_and] at hva
                  obtain ⟨rfl, rfl⟩ := hva
                  have hel := (HB9.out.cell (p := ⟨gv, d, none⟩) hgv).trans (hcv d hltd)
                  have hvi := p2.vios_at p2.n d (by rw [← HV.out]; exact hltd)
                  obtain ⟨q, hq⟩ : ∃ q, q = (p2.vios p2.n).getD d 0 := ⟨_, rfl⟩
                  rw [← hq] at hel hvi
                  have hqn : q < n := by rw [← HP3.out.2.1]; exact hvi.1
                  have hq16 : q < 16 := by omega
                  have hq16i : (q : Int) < 16 := by omega
                  obtain ⟨sv, hsv⟩ : ∃ sv, sv = p2.sts q := ⟨_, rfl⟩
                  have hs2 : ¬ sv < 2 := by rw [hsv]; unfold Mn.sts; rw [if_pos hvi.1]; have := hvi.2.2; omega
                  have s0 : wr.cell? ⟨gs, q, none⟩ = some (.int .u8 sv) := by rw [hsv]; exact (cell_of_row _ _ q _ _ _ HS9.out.bs).trans (scs_at _ hq16)
                  obtain ⟨ob, oo, hoa, hobl, horg⟩ := HR3.out.at_ (by omega)
                  have e0 : wr.cell? ⟨ob, oo + q * 11 + 10, none⟩ = some (.bool true) := by
                    refine (HS9.out.be.cell (p := ⟨ob, oo + q * 11 + 10, none⟩) hobl).trans (horg q hqn 10 _ ?_)
                    rw [← HP3.out.2.2 q hqn, ← hvi.2.1]
                    rfl
                  subst hoa
                  clear hsv hcv hvi hq horg
                  go_wp2
                  go_roundw
                  case rel => exact ⟨d + 1, by omega, by go_num, HB9.out⟩
                  case measure => simp [intOf]; omega
                · go_wp2
                  go_roundw
                  case rel => exact ⟨k + 1, p2, by omega, by go_num, HS9.out, HP3.out.1, HP3.out.2.1, HP3.out.2.2⟩
                  case measure => simp [intOf]; omega
    · have HBE := Lib.hid (HB3.out.trans (HS.out.be.mono HB3.out.size))
      go_wp2
      go_ret
      exact ⟨rfl, HBE.out⟩
end Go.Proofs.Ytkgeeohgfbacaaa
