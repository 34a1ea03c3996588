/- Layer 13: the document's example; units that never answer, units that are unwell. -/
import Derived.Test.YtkcpeefnlmmilaaUn
namespace Go.Proofs.Ytkcpeefnlmmilaa
open Go.RowKit Go.Own
set_option linter.unusedVariables false
set_option linter.unusedSimpArgs false
set_option maxRecDepth 100000 in
set_option maxHeartbeats 2000000 in
theorem Name3_any (w : World) : Calls Try.prog 102 #[.int .u8 3] w fun e w' => e = .returned (.string { data := #[108, 111, 115, 116] }) ∧ Below w.heap.size w w' := by
  go_enter Try.func102, Try.ntmps102
  go_wp2
  go_ret
  exact ⟨rfl, by repeat' (first | (with_reducible exact Below.refl _ _) | (with_reducible assumption) | (with_reducible refine Below.setCell ?_ ?_ _) | (with_reducible refine Below.alloc ?_ ?_ _) | (with_reducible refine Below.drew ?_) | (with_reducible refine Below.drawsN ?_ _) | go_size)⟩
theorem Un.inj {s l b s' l' b' : Int} (h : Un.mk s l b = Un.mk s' l' b') : s = s' ∧ l = l' ∧ b = b' := by
  injection h with h1 h2 h3
  exact ⟨h1, h2, h3⟩
set_option maxRecDepth 100000 in
set_option maxHeartbeats 4000000 in
theorem awake13 (w : World) : Calls Try.prog 52 #[] w fun e w' => e = .returned (.bool true) ∧ Below w.heap.size w w' := by
  go_enter Try.func52, Try.ntmps52
  go_wp2_with fail
  go_at_call 53
  refine (OrderNew_at 0 0 0 0 0 _ (.inl rfl)).mono ?_
  rintro e w1 ⟨rfl, hb1⟩
  go_wp2_with fail
  go_at_call 55
  refine (Step_any 1 0 0 false false 0 0 _ (by decide) (by decide) (by decide) (by decide) (by decide)).mono ?_
  rintro e w2 ⟨s, l, b, n, rfl, hu, hn, hb2⟩
  obtain ⟨rfl, rfl, rfl⟩ := Un.inj (hu.trans (show _ = Un.mk 3 0 0 from rfl))
  obtain rfl : n = 2 := hn
  obtain ⟨hc2, hf2⟩ := bcell hb2
  have hz2 : w1.heap.size < w2.heap.size := by have := hb2.size; simp at this; omega
  have HB2 := Lib.hid (hb1.trans (((Below.refl w1.heap.size w1).alloc (Nat.le_refl _) (.cells #[.int .u8 1, .int .u8 0, .int .u8 0] 110)).trans (hb2.mono (by simp)) |>.mono hb1.size))
  clear hu hb2 hb1
  go_wp2_with fail
  go_at_call 102
  refine (Name3_any _).mono ?_
  rintro e w3 ⟨rfl, hb3⟩
  go_wp2
  go_ret
  have hs := HB2.out.size
  exact ⟨rfl, HB2.out.trans (((Below.refl w2.heap.size w2).alloc (Nat.le_refl _) (.cells #[.int .u8 3, .int .u8 0, .int .u8 0] 110)).trans (hb3.mono (by simp)) |>.mono hs)⟩
theorem Step_det (s l b : Int) (ack well : Bool) (wt tol s' l' b' n' : Int) (w : World) (l0 : 0 ≤ l) (l1 : l ≤ 255) (b0 : 0 ≤ b) (b1 : b ≤ 255) (t1 : tol ≤ 255) (hu : Un.mk s' l' b' = uStep ⟨s, l, b⟩ ack well tol) (hn : n' = uBec ⟨s, l, b⟩ ack well tol) :
    Calls Try.prog 55 #[.agg #[.int .u8 s, .int .u8 l, .int .u8 b], .bool ack, .bool well, .agg #[.int .u8 wt, .int .u8 tol]] w fun e w' => e = .returned (.tuple #[.agg #[.int .u8 s', .int .u8 l', .int .u8 b'], .int .u8 n']) ∧ Below w.heap.size w w' := by
  refine (Step_any s l b ack well wt tol w l0 l1 b0 b1 t1).mono ?_
  rintro e w' ⟨s2, l2, b2, n2, rfl, h2, h3, hb⟩
  obtain ⟨rfl, rfl, rfl⟩ := Un.inj (h2.trans hu.symm)
  obtain rfl := h3.trans hn.symm
  exact ⟨rfl, hb⟩
/-- Where a law on one unit stands: its base, its rule's block, its unit's block. -/
structure USt (w wr : World) (gr gu : Nat) (wt tol s l b : Int) : Prop where
  be : Below w.heap.size w wr
  br : wr.heap[gr]? = some (.cells #[.int .u8 wt, .int .u8 tol] 107 (0, 0))
  bu : wr.heap[gu]? = some (.cells #[.int .u8 s, .int .u8 l, .int .u8 b] 110 (0, 0))
  hu : w.heap.size ≤ gu
  ne : gr ≠ gu
theorem USt.step {w wr w' : World} {gr gu k : Nat} {wt tol s l b : Int} (h : USt w wr gr gu wt tol s l b) (hb : Below k wr w') (hk : wr.heap.size ≤ k) : USt w w' gr gu wt tol s l b :=
  ⟨h.be.trans (hb.mono (Nat.le_trans h.be.size hk)), box_below h.br hb (Nat.lt_of_lt_of_le (box_lt h.br) hk), box_below h.bu hb (Nat.lt_of_lt_of_le (box_lt h.bu) hk), h.hu, h.ne⟩
theorem USt.put {w wr : World} {gr gu : Nat} {wt tol s l b : Int} (h : USt w wr gr gu wt tol s l b) (s' l' b' : Int) : USt w (wr.setRow gu #[.int .u8 s', .int .u8 l', .int .u8 b']) gr gu wt tol s' l' b' :=
  ⟨bel_row h.be h.hu _, (setRow_other _ gu gr _ h.ne).trans h.br, setRow_heap _ gu _ _ _ _ h.bu, h.hu, h.ne⟩
theorem USt.new {w w1 : World} {gr : Nat} {wt tol : Int} (hb : Below w.heap.size w w1) (hr : w1.heap[gr]? = some (.cells #[.int .u8 wt, .int .u8 tol] 107 (0, 0))) (s l b : Int) : USt w (w1.alloc (.cells #[.int .u8 s, .int .u8 l, .int .u8 b] 110)) gr w1.heap.size wt tol s l b :=
  ⟨hb.alloc hb.size _, (Below.heap_alloc _ _ _ (box_lt hr)).trans hr, heap_alloc_new _ _, hb.size, Nat.ne_of_lt (box_lt hr)⟩
def uQ (wt : Int) (k : Nat) : Un := if (k : Int) ≤ wt then ⟨1, wt - k, 0⟩ else ⟨3, 0, 0⟩
def uT (tol : Int) (k : Nat) : Un := if (k : Int) ≤ tol then ⟨2, 0, k⟩ else ⟨3, 0, 0⟩
theorem uQ_step {wt tol : Int} {k : Nat} (well : Bool) (h : (k : Int) ≤ wt) : uStep ⟨1, wt - k, 0⟩ false well tol = uQ wt (k + 1) := by
  unfold uStep uQ
  rw [if_pos rfl, if_neg (by decide)]
  by_cases e : wt - k = 0
  · rw [if_pos e, if_neg (by omega)]
  · rw [if_neg e, if_pos (by omega)]
    simp only [Un.mk.injEq, and_true, true_and]
    omega
theorem uT_step {tol : Int} {k : Nat} {ack well : Bool} (hn : (ack && well) = false) (h : (k : Int) ≤ tol) : uStep ⟨2, 0, k⟩ ack well tol = uT tol (k + 1) := by
  unfold uStep uT
  rw [if_neg (show ¬ (2 : Int) = 1 by decide), if_pos rfl, hn, if_neg (by decide)]
  by_cases e : tol ≤ k
  · rw [if_pos e, if_neg (by omega)]
  · rw [if_neg e, if_pos (by omega)]
    simp
set_option maxRecDepth 100000 in
set_option maxHeartbeats 8000000 in
theorem walk_UnitQuiet (n0_0 n0_1 a1 : Int) (w : World) (w0_0 : (Lit.int .u8 n0_0).wf = true) (w0_1 : (Lit.int .u8 n0_1).wf = true) (w1 : (Lit.int .u8 a1).wf = true) :
    Calls Try.prog 11 #[.agg #[.int .u8 n0_0, .int .u8 n0_1], .int .u8 a1] w fun e w' => e = .returned (.bool true) ∧ Below w.heap.size w w' := by
  obtain ⟨p0, p1⟩ := bounds_u8 w0_0
  obtain ⟨t0, t1⟩ := bounds_u8 w0_1
  obtain ⟨m0, m1⟩ := bounds_u8 w1
  clear w0_0 w0_1 w1
  have hb0 : Below w.heap.size w (w.alloc (.cells #[.int .u8 n0_0, .int .u8 n0_1] 107)) := (Below.refl _ _).alloc (Nat.le_refl _) _
  have g0 := heap_alloc_new w (.cells #[.int .u8 n0_0, .int .u8 n0_1] 107)
  go_enter Try.func11, Try.ntmps11
  go_wp2_with fail
  obtain ⟨gr, hgr⟩ : ∃ g, g = w.heap.size := ⟨_, rfl⟩
  obtain ⟨wa, hwa⟩ : ∃ wa, wa = w.alloc (.cells #[.int .u8 n0_0, .int .u8 n0_1] 107) := ⟨_, rfl⟩
  rw [← hwa] at hb0 g0 ⊢
  rw [← hgr] at g0
  go_at_call 52
  refine (awake13 _).mono ?_
  rintro e wb ⟨rfl, hb1⟩
  have g1 := box_below g0 hb1 (box_lt g0)
  have HB1 := Lib.hid (hb0.trans (hb1.mono hb0.size))
  have HG := Lib.hid hgr
  rw [← hgr]
  have q0 := cell_of_row _ _ 0 _ _ _ g1
  have q1 := cell_of_row _ _ 1 _ _ _ g1
  clear hb0 g0 hwa hgr hb1
  go_wp2_with fail
  go_at_call 53
  refine (OrderNew_at 0 0 0 n0_0 n0_1 _ (.inl rfl)).mono ?_
  rintro e wc ⟨rfl, hb2⟩
  have g2 := box_below g1 hb2 (box_lt g1)
  have HS := Lib.hid (USt.new (HB1.out.trans (hb2.mono HB1.out.size)) g2 1 n0_0 0)
  clear g1 q0 q1 hb2 g2 HB1
  go_wp2_with fail
  obtain ⟨gu, hgu⟩ : ∃ g, g = wc.heap.size := ⟨_, rfl⟩
  obtain ⟨wd, hwd⟩ : ∃ wd, wd = wc.alloc (.cells #[.int .u8 1, .int .u8 n0_0, .int .u8 0] 110) := ⟨_, rfl⟩
  rw [← hgu] at HS ⊢
  rw [← hwd] at HS ⊢
  clear hgu hwd
  go_loopw [7] (fun i wr => ∃ (k : Nat) (s l b : Int), (k : Int) ≤ n0_0 + 1 ∧ i = .int .i64 k ∧ USt w wr gr gu n0_0 n0_1 s l b ∧ Un.mk s l b = uQ n0_0 k) (fun i _ => 256 - (intOf i).toNat)
  case atStart => exact ⟨0, 1, n0_0, 0, by omega, rfl, HS.out, by unfold uQ; rw [if_pos (by omega)]; simp⟩
  case round =>
    obtain ⟨k, s, l, b, hk, rfl, hS, hu⟩ := hrel
    clear HS
    by_cases hlt : (k : Int) ≤ n0_0
    · unfold uQ at hu
      rw [if_pos hlt] at hu
      obtain ⟨rfl, rfl, rfl⟩ := Un.inj hu
      clear hu
      have HS := Lib.hid hS
      have r0 := cell_of_row _ _ 0 _ _ _ hS.br
      have r1 := cell_of_row _ _ 1 _ _ _ hS.br
      have q0 := cell_of_row _ _ 0 _ _ _ hS.bu
      have q1 := cell_of_row _ _ 1 _ _ _ hS.bu
      have q2 := cell_of_row _ _ 2 _ _ _ hS.bu
      clear hS
      have hk1 : (k : Int) ≤ 255 := by omega
      have HU := Lib.hid (uQ_step (tol := n0_1) true hlt)
      obtain ⟨y, hy⟩ : ∃ y, y = n0_0 - (k : Int) := ⟨_, rfl⟩
      rw [← hy] at HS q1 HU
      have y0 : 0 ≤ y := by omega
      have y1 : y ≤ 255 := by omega
      clear hy
      go_wp2_with fail
      go_at_call 55
      refine (Step_any 1 y 0 false true n0_0 n0_1 _ y0 y1 (by decide) (by decide) t1).mono ?_
      rintro e w' ⟨s', l', b', n', rfl, hu, hn, hb⟩
      have HS' := Lib.hid (HS.out.step hb (Nat.le_refl _))
      have g4 := HS'.out.bu
      have HU' := Lib.hid (hu.trans HU.out)
      clear hu hn hb HS HU r0 r1 q0 q1 q2
      go_wp2_with (refine wpList_store_row rfl 110 _ _ rfl _ _ rfl rfl _ _ g4 (by exact size_un) (by rfl) (by simp [Value.oneCell']) ?_; (try go_simp))
      have HS := Lib.hid (HS'.out.put s' l' b')
      clear g4 HS'
      go_roundw
      case rel => exact ⟨k + 1, s', l', b', by omega, by go_num, HS.out, HU'.out⟩
      case measure => simp [intOf]; omega
    · unfold uQ at hu
      rw [if_neg hlt] at hu
      obtain ⟨rfl, rfl, rfl⟩ := Un.inj hu
      clear hu
      have hk2 : n0_0 < (k : Int) := by omega
      have HS := Lib.hid hS
      have r0 := cell_of_row _ _ 0 _ _ _ hS.br
      have r1 := cell_of_row _ _ 1 _ _ _ hS.br
      have q0 := cell_of_row _ _ 0 _ _ _ hS.bu
      have q1 := cell_of_row _ _ 1 _ _ _ hS.bu
      have q2 := cell_of_row _ _ 2 _ _ _ hS.bu
      clear hS hlt
      have hk1 : (k : Int) ≤ 256 := by omega
      clear hk
      go_wp2_with fail
      have HV := Lib.hid (USt.new (Below.refl wr.heap.size wr) HS.out.br 2 0 0)
      obtain ⟨ws, hws⟩ : ∃ ws, ws = wr.alloc (.cells #[.int .u8 2, .int .u8 0, .int .u8 0] 110) := ⟨_, rfl⟩
      obtain ⟨gv, hgv⟩ : ∃ g, g = wr.heap.size := ⟨_, rfl⟩
      obtain ⟨wq, rfl⟩ : ∃ wq : World, wq = wr := ⟨_, rfl⟩
      rw [← hws, ← hgv] at HV ⊢
      clear hws hgv r0 r1 q0 q1 q2
      go_loopw [9] (fun i wr => ∃ (k : Nat) (s l b : Int), (k : Int) ≤ n0_1 + 1 ∧ i = .int .i64 k ∧ USt wq wr gr gv n0_0 n0_1 s l b ∧ Un.mk s l b = uT n0_1 k) (fun i _ => 256 - (intOf i).toNat)
      case atStart => exact ⟨0, 2, 0, 0, by omega, rfl, HV.out, by unfold uT; rw [if_pos (by omega)]; simp⟩
      case round =>
        obtain ⟨k2, s, l, b, hk, rfl, hS, hu⟩ := hrel
        clear HV
        by_cases hlt : (k2 : Int) ≤ n0_1
        · unfold uT at hu
          rw [if_pos hlt] at hu
          obtain ⟨rfl, rfl, rfl⟩ := Un.inj hu
          clear hu
          have HV := Lib.hid hS
          have r0 := cell_of_row _ _ 0 _ _ _ hS.br
          have r1 := cell_of_row _ _ 1 _ _ _ hS.br
          have q0 := cell_of_row _ _ 0 _ _ _ hS.bu
          have q1 := cell_of_row _ _ 1 _ _ _ hS.bu
          have q2 := cell_of_row _ _ 2 _ _ _ hS.bu
          clear hS
          have hk3 : (k2 : Int) ≤ 255 := by omega
          have hm : (k2 : Int) % 2 = 0 ∨ (k2 : Int) % 2 = 1 := by omega
          have hand : (((k2 : Int) % 2 == 0) && ((k2 : Int) % 2 == 1)) = false := by rcases hm with h | h <;> rw [h] <;> rfl
          have HU := Lib.hid (uT_step (tol := n0_1) hand hlt)
          clear hm hand
          go_wp2_with fail
          go_at_call 55
          refine (Step_any 2 0 k2 ((k2 : Int) % 2 == 0) ((k2 : Int) % 2 == 1) n0_0 n0_1 _ (by decide) (by decide) (by omega) hk3 t1).mono ?_
          rintro e w' ⟨s', l', b', n', rfl, hu, hn, hb⟩
          have HS' := Lib.hid (HV.out.step hb (Nat.le_refl _))
          have g4 := HS'.out.bu
          have HU' := Lib.hid (hu.trans HU.out)
          clear hu hn hb HV HU r0 r1 q0 q1 q2
          go_wp2_with (refine wpList_store_row rfl 110 _ _ rfl _ _ rfl rfl _ _ g4 (by exact size_un) (by rfl) (by simp [Value.oneCell']) ?_; (try go_simp))
          have HV := Lib.hid (HS'.out.put s' l' b')
          clear g4 HS'
          go_roundw
          case rel => exact ⟨k2 + 1, s', l', b', by omega, by go_num, HV.out, HU'.out⟩
          case measure => simp [intOf]; omega
        · unfold uT at hu
          rw [if_neg hlt] at hu
          obtain ⟨rfl, rfl, rfl⟩ := Un.inj hu
          clear hu
          have hk4 : n0_1 < (k2 : Int) := by omega
          have HV := Lib.hid hS
          have r0 := cell_of_row _ _ 0 _ _ _ hS.br
          have r1 := cell_of_row _ _ 1 _ _ _ hS.br
          have q0 := cell_of_row _ _ 0 _ _ _ hS.bu
          have q1 := cell_of_row _ _ 1 _ _ _ hS.bu
          have q2 := cell_of_row _ _ 2 _ _ _ hS.bu
          clear hS hlt
          have hk3 : (k2 : Int) ≤ 256 := by omega
          clear hk
          go_wp2_with fail
          have HW := Lib.hid (USt.new (Below.refl wr.heap.size wr) HV.out.br 0 0 0)
          obtain ⟨ws, hws⟩ : ∃ ws, ws = wr.alloc (.cells #[.int .u8 0, .int .u8 0, .int .u8 0] 110) := ⟨_, rfl⟩
          obtain ⟨gw, hgw⟩ : ∃ g, g = wr.heap.size := ⟨_, rfl⟩
          obtain ⟨wz, rfl⟩ : ∃ wz : World, wz = wr := ⟨_, rfl⟩
          rw [← hws, ← hgw] at HW ⊢
          clear hws hgw r0 r1 q0 q1 q2
          go_loopw [63] (fun i wr => ∃ k : Nat, (k : Int) ≤ a1 % 20 ∧ i = .int .u8 k ∧ USt wz wr gr gw n0_0 n0_1 0 0 0) (fun i _ => 256 - (intOf i).toNat)
          case atStart => exact ⟨0, by omega, rfl, HW.out⟩
          case round =>
            obtain ⟨k5, hk5, rfl, hS⟩ := hrel
            clear HW
            have HW := Lib.hid hS
            have r0 := cell_of_row _ _ 0 _ _ _ hS.br
            have r1 := cell_of_row _ _ 1 _ _ _ hS.br
            have q0 := cell_of_row _ _ 0 _ _ _ hS.bu
            have q1 := cell_of_row _ _ 1 _ _ _ hS.bu
            have q2 := cell_of_row _ _ 2 _ _ _ hS.bu
            clear hS
            by_cases hlt : (k5 : Int) < a1 % 20
            · have hk6 : (k5 : Int) + 1 ≤ 255 := by omega
              go_wp2_with fail
              go_at_call 55
              refine (Step_any 0 0 0 (a1 % 2 == 0) true n0_0 n0_1 _ (by decide) (by decide) (by decide) (by decide) t1).mono ?_
              rintro e w' ⟨s', l', b', n', rfl, hu, hn, hb⟩
              obtain ⟨rfl, rfl, rfl⟩ := Un.inj (hu.trans (show _ = Un.mk 0 0 0 from rfl))
              obtain rfl : n' = 0 := hn
              have hS := HW.out.step hb (Nat.le_refl _)
              have hS2 := hS.step ((Below.refl w'.heap.size w').alloc (Nat.le_refl _) (.cells #[.int .u8 0, .int .u8 0, .int .u8 0] 110)) (Nat.le_refl _)
              have hgl := box_lt hS.bu
              clear hu hb HW r0 r1 q0 q1 q2
              have HW := Lib.hid hS2
              have r0 := cell_of_row _ _ 0 _ _ _ hS.br
              have r1 := cell_of_row _ _ 1 _ _ _ hS.br
              have q0 := cell_of_row _ _ 0 _ _ _ hS.bu
              have q1 := cell_of_row _ _ 1 _ _ _ hS.bu
              have q2 := cell_of_row _ _ 2 _ _ _ hS.bu
              clear hS hS2
              go_wp2_with fail
              go_roundw
              case rel => exact ⟨k5 + 1, by omega, by go_num, HW.out⟩
              case measure => simp [intOf]; omega
            · have hbz := HW.out.be
              have hv0 := (HW.out.be.cell (p := ⟨gv, 0, none⟩) (box_lt HV.out.bu)).trans (cell_of_row _ _ 0 _ _ _ HV.out.bu)
              have hgu := (HV.out.be.block _ (box_lt HS.out.bu)).trans HS.out.bu
              have hu0 := (HW.out.be.cell (p := ⟨gu, 0, none⟩) (box_lt hgu)).trans (cell_of_row _ _ 0 _ _ _ hgu)
              have HBB := Lib.hid (HS.out.be.trans ((HV.out.be.mono (Nat.le_refl _)).trans (HW.out.be.mono HV.out.be.size) |>.mono HS.out.be.size))
              clear hbz hgu
              go_wp2
              go_ret
              exact ⟨rfl, HBB.out⟩
end Go.Proofs.Ytkcpeefnlmmilaa
