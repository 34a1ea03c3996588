/- Layer 13: every script of orders and cycles. -/
import Derived.Test.YtkcpeefnlmmilaaUnP
namespace Go.Proofs.Ytkcpeefnlmmilaa
open Go.RowKit Go.Own
set_option linter.unusedVariables false
set_option linter.unusedSimpArgs false
/-- Where the script stands: the program's unit, the document's. -/
structure PSt (w wr : World) (gr gu gx : Nat) (wt tol s l b s' l' b' : Int) : Prop where
  be : Below w.heap.size w wr
  br : wr.heap[gr]? = some (.cells #[.int .u8 wt, .int .u8 tol] 107 (0, 0))
  bu : wr.heap[gu]? = some (.cells #[.int .u8 s, .int .u8 l, .int .u8 b] 110 (0, 0))
  bx : wr.heap[gx]? = some (.cells #[.int .u8 s', .int .u8 l', .int .u8 b'] 111 (0, 0))
  hu : w.heap.size ≤ gu
  hx : w.heap.size ≤ gx
  n1 : gr ≠ gu
  n2 : gr ≠ gx
  n3 : gu ≠ gx
theorem PSt.step {w wr w' : World} {gr gu gx k : Nat} {wt tol s l b s' l' b' : Int} (h : PSt w wr gr gu gx wt tol s l b s' l' b') (hb : Below k wr w') (hk : wr.heap.size ≤ k) : PSt w w' gr gu gx wt tol s l b s' l' b' :=
  ⟨h.be.trans (hb.mono (Nat.le_trans h.be.size hk)), box_below h.br hb (Nat.lt_of_lt_of_le (box_lt h.br) hk), box_below h.bu hb (Nat.lt_of_lt_of_le (box_lt h.bu) hk), box_below h.bx hb (Nat.lt_of_lt_of_le (box_lt h.bx) hk), h.hu, h.hx, h.n1, h.n2, h.n3⟩
theorem PSt.putU {w wr : World} {gr gu gx : Nat} {wt tol s l b s' l' b' : Int} (h : PSt w wr gr gu gx wt tol s l b s' l' b') (p q r : Int) : PSt w (wr.setRow gu #[.int .u8 p, .int .u8 q, .int .u8 r]) gr gu gx wt tol p q r s' l' b' :=
  ⟨bel_row h.be h.hu _, (setRow_other _ gu gr _ h.n1).trans h.br, setRow_heap _ gu _ _ _ _ h.bu, (setRow_other _ gu gx _ (Ne.symm h.n3)).trans h.bx, h.hu, h.hx, h.n1, h.n2, h.n3⟩
theorem PSt.putX {w wr : World} {gr gu gx : Nat} {wt tol s l b s' l' b' : Int} (h : PSt w wr gr gu gx wt tol s l b s' l' b') (p q r : Int) : PSt w (wr.setRow gx #[.int .u8 p, .int .u8 q, .int .u8 r]) gr gu gx wt tol s l b p q r :=
  ⟨bel_row h.be h.hx _, (setRow_other _ gx gr _ h.n2).trans h.br, (setRow_other _ gx gu _ h.n3).trans h.bu, setRow_heap _ gx _ _ _ _ h.bx, h.hu, h.hx, h.n1, h.n2, h.n3⟩
/-- What the law has counted. -/
structure PCnt (wt tol s l b since bad : Int) (ord : Bool) : Prop where
  right : Un.Right ⟨s, l, b⟩ wt tol
  st1 : s = 1 → since = wt - l ∧ bad = 0 ∧ ord = true
  st2 : s = 2 → bad = b ∧ ord = true
theorem Order_det (s l b : Int) (on : Bool) (wt tol s' l' b' : Int) (t : Bool) (w : World) (hu : Un.mk s' l' b' = uOrd ⟨s, l, b⟩ on wt) (ht : t = uCmd ⟨s, l, b⟩ on) :
    Calls Try.prog 53 #[.agg #[.int .u8 s, .int .u8 l, .int .u8 b], .bool on, .agg #[.int .u8 wt, .int .u8 tol]] w fun e w' => e = .returned (.tuple #[.agg #[.int .u8 s', .int .u8 l', .int .u8 b'], .bool t]) ∧ Below w.heap.size w w' := by
  refine (Order_any s l b on wt tol w).mono ?_
  rintro e w' ⟨s2, l2, b2, t2, rfl, h2, h3, hb⟩
  obtain ⟨rfl, rfl, rfl⟩ := Un.inj (h2.trans hu.symm)
  obtain rfl := h3.trans ht.symm
  exact ⟨rfl, hb⟩
theorem rOrder_det (s l b : Int) (on : Bool) (wt tol s' l' b' : Int) (t : Bool) (w : World) (h : Un.Right ⟨s, l, b⟩ wt tol) (hu : Un.mk s' l' b' = uOrd ⟨s, l, b⟩ on wt) (ht : t = uCmd ⟨s, l, b⟩ on) :
    Calls Try.prog 54 #[.agg #[.int .u8 s, .int .u8 l, .int .u8 b], .bool on, .agg #[.int .u8 wt, .int .u8 tol]] w fun e w' => e = .returned (.tuple #[.agg #[.int .u8 s', .int .u8 l', .int .u8 b'], .bool t]) ∧ Below w.heap.size w w' := by
  refine (rOrder_any s l b on wt tol w h).mono ?_
  rintro e w' ⟨s2, l2, b2, t2, rfl, h2, h3, hb⟩
  obtain ⟨rfl, rfl, rfl⟩ := Un.inj (h2.trans hu.symm)
  obtain rfl := h3.trans ht.symm
  exact ⟨rfl, hb⟩
theorem rStep_det (s l b : Int) (ack well : Bool) (wt tol s' l' b' n' : Int) (w : World) (h : Un.Right ⟨s, l, b⟩ wt tol) (w1 : wt ≤ 255) (t1 : tol ≤ 255) (hu : Un.mk s' l' b' = uStep ⟨s, l, b⟩ ack well tol) (hn : n' = uBec ⟨s, l, b⟩ ack well tol) :
    Calls Try.prog 56 #[.agg #[.int .u8 s, .int .u8 l, .int .u8 b], .bool ack, .bool well, .agg #[.int .u8 wt, .int .u8 tol]] w fun e w' => e = .returned (.tuple #[.agg #[.int .u8 s', .int .u8 l', .int .u8 b'], .int .i64 n']) ∧ Below w.heap.size w w' := by
  refine (rStep_any s l b ack well wt tol w h w1 t1).mono ?_
  rintro e w' ⟨s2, l2, b2, n2, rfl, h2, h3, hb⟩
  obtain ⟨rfl, rfl, rfl⟩ := Un.inj (h2.trans hu.symm)
  obtain rfl := h3.trans hn.symm
  exact ⟨rfl, hb⟩
/- an order: #1 on, #2 #3 #4 the unit, #5 #6 #7 what it becomes, #8 is a command issued -/
/-- Where a cycle stands: besides, the act's copy and the unit that was before. -/
structure BSt (w wr : World) (gr gu gx ga gB : Nat) (wt tol s l b s' l' b' z : Int) (ak we : Bool) (p q r : Int) : Prop where
  st : PSt w wr gr gu gx wt tol s l b s' l' b'
  ba : wr.heap[ga]? = some (.cells #[.int .u8 z, .bool ak, .bool we] 113 (0, 0))
  bB : wr.heap[gB]? = some (.cells #[.int .u8 p, .int .u8 q, .int .u8 r] 110 (0, 0))
  m1 : ga ≠ gu
  m2 : ga ≠ gx
  m3 : gB ≠ gu
  m4 : gB ≠ gx
theorem BSt.step {w wr w' : World} {gr gu gx ga gB k : Nat} {wt tol s l b s' l' b' z p q r : Int} {ak we : Bool} (h : BSt w wr gr gu gx ga gB wt tol s l b s' l' b' z ak we p q r) (hb : Below k wr w') (hk : wr.heap.size ≤ k) : BSt w w' gr gu gx ga gB wt tol s l b s' l' b' z ak we p q r :=
  ⟨h.st.step hb hk, box_below h.ba hb (Nat.lt_of_lt_of_le (box_lt h.ba) hk), box_below h.bB hb (Nat.lt_of_lt_of_le (box_lt h.bB) hk), h.m1, h.m2, h.m3, h.m4⟩
theorem BSt.putU {w wr : World} {gr gu gx ga gB : Nat} {wt tol s l b s' l' b' z p q r : Int} {ak we : Bool} (h : BSt w wr gr gu gx ga gB wt tol s l b s' l' b' z ak we p q r) (x y t : Int) : BSt w (wr.setRow gu #[.int .u8 x, .int .u8 y, .int .u8 t]) gr gu gx ga gB wt tol x y t s' l' b' z ak we p q r :=
  ⟨h.st.putU x y t, (setRow_other _ gu ga _ h.m1).trans h.ba, (setRow_other _ gu gB _ h.m3).trans h.bB, h.m1, h.m2, h.m3, h.m4⟩
theorem BSt.putX {w wr : World} {gr gu gx ga gB : Nat} {wt tol s l b s' l' b' z p q r : Int} {ak we : Bool} (h : BSt w wr gr gu gx ga gB wt tol s l b s' l' b' z ak we p q r) (x y t : Int) : BSt w (wr.setRow gx #[.int .u8 x, .int .u8 y, .int .u8 t]) gr gu gx ga gB wt tol s l b x y t z ak we p q r :=
  ⟨h.st.putX x y t, (setRow_other _ gx ga _ h.m2).trans h.ba, (setRow_other _ gx gB _ h.m4).trans h.bB, h.m1, h.m2, h.m3, h.m4⟩
/- a cycle: #1 #2 #3 the unit, #4 #5 acknowledged, well, #6 #7 #8 what it becomes, #9 what it has become -/
theorem size_ru : (Try.prog.info? 111).map (·.size) = some 3 := by kernel_rfl
set_option maxRecDepth 100000 in
set_option maxHeartbeats 8000000 in
theorem walk_UnitPlays (n0_0 n0_1 : Int) (a1 : Option Addr) (len1 cap1 : Nat) (w : World) (w0_0 : (Lit.int .u8 n0_0).wf = true) (w0_1 : (Lit.int .u8 n0_1).wf = true) (w1 : IsFlat [.int .u8, .bool, .bool] w a1 len1 cap1) :
    Calls Try.prog 9 #[.agg #[.int .u8 n0_0, .int .u8 n0_1], .slice a1 len1 cap1] w fun e w' => e = .returned (.bool true) ∧ Below w.heap.size w w' := by
  obtain ⟨p0, p1⟩ := bounds_u8 w0_0
  obtain ⟨t0, t1⟩ := bounds_u8 w0_1
  obtain ⟨c0, c1, _, cx⟩ := w1
  have CX := Lib.hid cx
  unfold maxLen at c1
  clear w0_0 w0_1 cx
  have hb0 : Below w.heap.size w (w.alloc (.cells #[.int .u8 n0_0, .int .u8 n0_1] 107)) := (Below.refl _ _).alloc (Nat.le_refl _) _
  have g0 := heap_alloc_new w (.cells #[.int .u8 n0_0, .int .u8 n0_1] 107)
  go_enter Try.func9, Try.ntmps9
  go_wp2_with fail
  obtain ⟨gr, hgr⟩ : ∃ g, g = w.heap.size := ⟨_, rfl⟩
  obtain ⟨wa, hwa⟩ : ∃ wa, wa = w.alloc (.cells #[.int .u8 n0_0, .int .u8 n0_1] 107) := ⟨_, rfl⟩
  rw [← hwa] at hb0 g0 ⊢
  rw [← hgr] at g0
  go_at_call 52
  refine (awake13 _).mono ?_
  rintro e wb ⟨rfl, hb1⟩
  have g1 := box_below g0 hb1 (box_lt g0)
  have hbb := hb0.trans (hb1.mono hb0.size)
  rw [← hgr]
  clear hb0 g0 hwa hgr hb1
  have hl1 := box_lt g1
  have HS : PSt w ((wb.alloc (.cells #[.int .u8 0, .int .u8 0, .int .u8 0] 110)).alloc (.cells #[.int .u8 0, .int .u8 0, .int .u8 0] 111)) gr wb.heap.size (wb.heap.size + 1) n0_0 n0_1 0 0 0 0 0 0 := by
    obtain ⟨h1, h2⟩ := heap2s wb (.cells #[.int .u8 0, .int .u8 0, .int .u8 0] 110) (.cells #[.int .u8 0, .int .u8 0, .int .u8 0] 111)
    have hs := hbb.size
    exact ⟨(hbb.alloc hs _).alloc (by simp; omega) _, (Below.heap_alloc _ _ _ (by simp; omega)).trans ((Below.heap_alloc _ _ _ hl1).trans g1), h1, h2, hs, by omega, by omega, by omega, by omega⟩
  have HS := Lib.hid HS
  clear hbb g1 hl1
  go_wp2_with fail
  obtain ⟨wd, hwd⟩ : ∃ wd, wd = ((wb.alloc (.cells #[.int .u8 0, .int .u8 0, .int .u8 0] 110)).alloc (.cells #[.int .u8 0, .int .u8 0, .int .u8 0] 111)) := ⟨_, rfl⟩
  obtain ⟨gu, hgu⟩ : ∃ g, g = wb.heap.size := ⟨_, rfl⟩
  obtain ⟨gx, hgx⟩ : ∃ g, g = wb.heap.size + 1 := ⟨_, rfl⟩
  rw [← hwd, ← hgx, ← hgu] at HS
  rw [← hwd]
  rw [← hgx, ← hgu]
  clear hwd hgu hgx
  go_loopw [7, 8, 9, 23] (fun sn bd od i wr => ∃ (k : Nat) (s l b since bad : Int) (ord : Bool), k ≤ len1 ∧ k ≤ 80 ∧ i = .int .i64 k ∧ sn = .int .i64 since ∧ bd = .int .i64 bad ∧ od = .bool ord ∧ PSt w wr gr gu gx n0_0 n0_1 s l b s l b ∧ PCnt n0_0 n0_1 s l b since bad ord) (fun _ _ _ i _ => len1 - (intOf i).toNat)
  case atStart => exact ⟨0, 0, 0, 0, 0, 0, false, by omega, by omega, rfl, rfl, rfl, rfl, HS.out, ⟨Un.Right.off p0 t0, fun h => absurd h (by decide), fun h => absurd h (by decide)⟩⟩
  case round =>
    obtain ⟨k, s, l, b, since, bad, ord, hk, hk80, rfl, rfl, rfl, rfl, hS, hC⟩ := hrel
    clear HS
    by_cases hlt : k < len1
    · by_cases h80 : k < 80
      · obtain ⟨bb, off, rfl, hbb, hel⟩ := CX.out (by omega)
        obtain ⟨cs, hfit, hcell⟩ := hel k hlt
        match cs, hfit with
        | [v0, v1, v2], ⟨⟨z, hv0, hz⟩, ⟨ak, hv1⟩, ⟨we, hv2⟩, _⟩ =>
        subst hv0 hv1 hv2
        obtain ⟨z0, z1⟩ := bounds_u8 hz
        have c0 := (hS.be.cell (p := ⟨bb, off + k * 3, none⟩) hbb).trans (hcell 0 _ rfl)
        have c1 := (hS.be.cell (p := ⟨bb, off + k * 3 + 1, none⟩) hbb).trans (hcell 1 _ rfl)
        have c2 := (hS.be.cell (p := ⟨bb, off + k * 3 + 2, none⟩) hbb).trans (hcell 2 _ rfl)
        have hS1 := hS.step ((Below.refl wr.heap.size wr).alloc (Nat.le_refl _) (.cells #[.int .u8 z, .bool ak, .bool we] 113)) (Nat.le_refl _)
        have ha := heap_alloc_new wr (.cells #[.int .u8 z, .bool ak, .bool we] 113)
        have hsu := box_lt hS.bu
        have hsx := box_lt hS.bx
        clear hfit hcell hel hz hS
        go_upto_if 33 with fail
        obtain ⟨wv, hwv⟩ : ∃ wv, wv = wr.alloc (.cells #[.int .u8 z, .bool ak, .bool we] 113) := ⟨_, rfl⟩
        obtain ⟨ga, hga⟩ : ∃ g, g = wr.heap.size := ⟨_, rfl⟩
        have hau : gu ≠ ga ∧ gx ≠ ga := by omega
        clear hsu hsx
        rw [← hwv] at hS1
        rw [← hwv, ← hga] at ha
        rw [← hwv, ← hga]
        have HS1 := Lib.hid hS1
        have HC := Lib.hid hC
        have HAU := Lib.hid hau
        clear hwv hga hS1 c0 c1 c2 hC hau
        go_cut [7, 8, 9] (fun sn bd od wx => ∃ (s l b since bad : Int) (ord : Bool), sn = .int .i64 since ∧ bd = .int .i64 bad ∧ od = .bool ord ∧ PSt w wx gr gu gx n0_0 n0_1 s l b s l b ∧ PCnt n0_0 n0_1 s l b since bad ord ∧ wx.heap[ga]? = some (.cells #[.int .u8 z, .bool ak, .bool we] 113 (0, 0)))
        case first =>
          have hm : z % 3 = 0 ∨ z % 3 = 1 ∨ z % 3 = 2 := by omega
          rcases hm with hm | hm | hm
          · have hz1 : z % 3 ≤ 0 := by omega
            clear hm
            go_wp2
            go_meet
            case rel => exact ⟨s, l, b, since, bad, ord, rfl, rfl, rfl, HS1.out, HC.out, ha⟩
          · have hz1 : 0 < z % 3 := by omega
            have hz2 : (z % 3 == 1) = true := by rw [hm]; rfl
            clear hm
            have hl := HC.out.right.l
            have hb := HC.out.right.b
            simp only at hl hb
            rcases HC.out.right.st with he | he | he | he
            · as_aux_lemma =>
                simp only at he
                subst he
                clear hl hb
                have hS0 := HS1.out
                have hsz := box_lt hS0.bu
                have hsx := box_lt hS0.bx
                have hsr := box_lt hS0.br
                have hsa := box_lt ha
                have hR := HC.out.right
                have hSa := hS0.step ((Below.refl wv.heap.size wv).alloc (Nat.le_refl _) (.cells #[.int .u8 0, .int .u8 l, .int .u8 b] 110)) (Nat.le_refl _)
                have gw := heap_alloc_new wv (.cells #[.int .u8 0, .int .u8 l, .int .u8 b] 110)
                have haa := (Below.heap_alloc wv (.cells #[.int .u8 0, .int .u8 l, .int .u8 b] 110) _ hsa).trans ha
                have a0 := cell_of_row _ _ 0 _ _ _ ha
                have r0 := cell_of_row _ _ 0 _ _ _ hS0.br
                have r1 := cell_of_row _ _ 1 _ _ _ hS0.br
                have q0 := cell_of_row _ _ 0 _ _ _ hS0.bu
                have q1 := cell_of_row _ _ 1 _ _ _ hS0.bu
                have q2 := cell_of_row _ _ 2 _ _ _ hS0.bu
                have x0 := cell_of_row _ _ 0 _ _ _ hS0.bx
                have x1 := cell_of_row _ _ 1 _ _ _ hS0.bx
                have x2 := cell_of_row _ _ 2 _ _ _ hS0.bx
                have HSA := Lib.hid hSa
                have HR := Lib.hid hR
                clear hSa hS0 hR
                go_wp2_with fail
                obtain ⟨gW, hgW⟩ : ∃ g, g = wv.heap.size := ⟨_, rfl⟩
                obtain ⟨wA, hwA⟩ : ∃ wA, wA = wv.alloc (.cells #[.int .u8 0, .int .u8 l, .int .u8 b] 110) := ⟨_, rfl⟩
                have HWne := Lib.hid (show gW ≠ gu ∧ gW ≠ gx ∧ gW ≠ ga by omega)
                rw [← hwA] at HSA haa
                rw [← hwA, ← hgW] at gw
                rw [← hwA, ← hgW]
                clear hgW hwA hsz hsx hsr hsa a0
                clear r0 r1 q0 q1 q2 x0 x1 x2

                go_at_call 53
                refine (Order_det 0 l b true n0_0 n0_1 1 n0_0 0 true _ (by rfl) (by rfl)).mono ?_
                rintro e w1 ⟨rfl, hb⟩
                have hS2 := HSA.out.step hb (Nat.le_refl _)
                have g4 := hS2.bu
                have gw1 := (setRow_other w1 gu gW #[.int .u8 1, .int .u8 n0_0, .int .u8 0] HWne.out.1).trans (box_below gw hb (box_lt gw))
                have ha1 := (setRow_other w1 gu ga #[.int .u8 1, .int .u8 n0_0, .int .u8 0] (Ne.symm HAU.out.1)).trans (box_below haa hb (box_lt haa))
                have hS3 := hS2.putU 1 n0_0 0
                clear HSA gw haa hb hS2
                have r0 := cell_of_row _ _ 0 _ _ _ hS3.br
                have r1 := cell_of_row _ _ 1 _ _ _ hS3.br
                have q0 := cell_of_row _ _ 0 _ _ _ hS3.bu
                have q1 := cell_of_row _ _ 1 _ _ _ hS3.bu
                have q2 := cell_of_row _ _ 2 _ _ _ hS3.bu
                have x0 := cell_of_row _ _ 0 _ _ _ hS3.bx
                have x1 := cell_of_row _ _ 1 _ _ _ hS3.bx
                have x2 := cell_of_row _ _ 2 _ _ _ hS3.bx
                have HS3 := Lib.hid hS3
                clear hS3
                go_wp2_with (refine wpList_store_row rfl 110 _ _ rfl _ _ rfl rfl _ _ g4 (by exact size_un) (by rfl) (by simp [Value.oneCell']) ?_; (try go_simp))
                go_at_call 54
                refine (rOrder_det 0 l b true n0_0 n0_1 1 n0_0 0 true _ HR.out (by rfl) (by rfl)).mono ?_
                rintro e w2 ⟨rfl, hb⟩
                have hS4 := HS3.out.step hb (Nat.le_refl _)
                have g5 := hS4.bx
                have gw2 := (setRow_other w2 gx gW #[.int .u8 1, .int .u8 n0_0, .int .u8 0] HWne.out.2.1).trans (box_below gw1 hb (box_lt gw1))
                have ha2 := (setRow_other w2 gx ga #[.int .u8 1, .int .u8 n0_0, .int .u8 0] (Ne.symm HAU.out.2)).trans (box_below ha1 hb (box_lt ha1))
                have hS5 := hS4.putX 1 n0_0 0
                clear gw1 ha1 hb hS4 HS3 g4
                clear r0 r1 q0 q1 q2 x0 x1 x2

                have r0 := cell_of_row _ _ 0 _ _ _ hS5.br
                have r1 := cell_of_row _ _ 1 _ _ _ hS5.br
                have q0 := cell_of_row _ _ 0 _ _ _ hS5.bu
                have q1 := cell_of_row _ _ 1 _ _ _ hS5.bu
                have q2 := cell_of_row _ _ 2 _ _ _ hS5.bu
                have x0 := cell_of_row _ _ 0 _ _ _ hS5.bx
                have x1 := cell_of_row _ _ 1 _ _ _ hS5.bx
                have x2 := cell_of_row _ _ 2 _ _ _ hS5.bx
                have v0 := cell_of_row _ _ 0 _ _ _ gw2
                have v1 := cell_of_row _ _ 1 _ _ _ gw2
                have v2 := cell_of_row _ _ 2 _ _ _ gw2
                have HS5 := Lib.hid hS5
                have HA2 := Lib.hid ha2
                clear hS5 gw2 ha2
                go_wp2_with (refine wpList_store_row rfl 111 _ _ rfl _ _ rfl rfl _ _ g5 (by exact size_ru) (by rfl) (by simp [Value.oneCell']) ?_; (try go_simp))
                go_meet
                case rel => exact ⟨1, n0_0, 0, 0, 0, true, rfl, rfl, rfl, HS5.out, ⟨by have := HR.out.ord t0 true; exact this, fun _ => ⟨by omega, rfl, rfl⟩, fun h => absurd h (by decide)⟩, HA2.out⟩
            · as_aux_lemma =>
                simp only at he
                subst he
                obtain rfl := hb (by decide)
                clear hl hb
                have hS0 := HS1.out
                have hsz := box_lt hS0.bu
                have hsx := box_lt hS0.bx
                have hsr := box_lt hS0.br
                have hsa := box_lt ha
                have hR := HC.out.right
                have hSa := hS0.step ((Below.refl wv.heap.size wv).alloc (Nat.le_refl _) (.cells #[.int .u8 1, .int .u8 l, .int .u8 0] 110)) (Nat.le_refl _)
                have gw := heap_alloc_new wv (.cells #[.int .u8 1, .int .u8 l, .int .u8 0] 110)
                have haa := (Below.heap_alloc wv (.cells #[.int .u8 1, .int .u8 l, .int .u8 0] 110) _ hsa).trans ha
                have a0 := cell_of_row _ _ 0 _ _ _ ha
                have r0 := cell_of_row _ _ 0 _ _ _ hS0.br
                have r1 := cell_of_row _ _ 1 _ _ _ hS0.br
                have q0 := cell_of_row _ _ 0 _ _ _ hS0.bu
                have q1 := cell_of_row _ _ 1 _ _ _ hS0.bu
                have q2 := cell_of_row _ _ 2 _ _ _ hS0.bu
                have x0 := cell_of_row _ _ 0 _ _ _ hS0.bx
                have x1 := cell_of_row _ _ 1 _ _ _ hS0.bx
                have x2 := cell_of_row _ _ 2 _ _ _ hS0.bx
                have HSA := Lib.hid hSa
                have HR := Lib.hid hR
                clear hSa hS0 hR
                go_wp2_with fail
                obtain ⟨gW, hgW⟩ : ∃ g, g = wv.heap.size := ⟨_, rfl⟩
                obtain ⟨wA, hwA⟩ : ∃ wA, wA = wv.alloc (.cells #[.int .u8 1, .int .u8 l, .int .u8 0] 110) := ⟨_, rfl⟩
                have HWne := Lib.hid (show gW ≠ gu ∧ gW ≠ gx ∧ gW ≠ ga by omega)
                rw [← hwA] at HSA haa
                rw [← hwA, ← hgW] at gw
                rw [← hwA, ← hgW]
                clear hgW hwA hsz hsx hsr hsa a0
                clear r0 r1 q0 q1 q2 x0 x1 x2

                go_at_call 53
                refine (Order_det 1 l 0 true n0_0 n0_1 1 l 0 false _ (by rfl) (by rfl)).mono ?_
                rintro e w1 ⟨rfl, hb⟩
                have hS2 := HSA.out.step hb (Nat.le_refl _)
                have g4 := hS2.bu
                have gw1 := (setRow_other w1 gu gW #[.int .u8 1, .int .u8 l, .int .u8 0] HWne.out.1).trans (box_below gw hb (box_lt gw))
                have ha1 := (setRow_other w1 gu ga #[.int .u8 1, .int .u8 l, .int .u8 0] (Ne.symm HAU.out.1)).trans (box_below haa hb (box_lt haa))
                have hS3 := hS2.putU 1 l 0
                clear HSA gw haa hb hS2
                have r0 := cell_of_row _ _ 0 _ _ _ hS3.br
                have r1 := cell_of_row _ _ 1 _ _ _ hS3.br
                have q0 := cell_of_row _ _ 0 _ _ _ hS3.bu
                have q1 := cell_of_row _ _ 1 _ _ _ hS3.bu
                have q2 := cell_of_row _ _ 2 _ _ _ hS3.bu
                have x0 := cell_of_row _ _ 0 _ _ _ hS3.bx
                have x1 := cell_of_row _ _ 1 _ _ _ hS3.bx
                have x2 := cell_of_row _ _ 2 _ _ _ hS3.bx
                have HS3 := Lib.hid hS3
                clear hS3
                go_wp2_with (refine wpList_store_row rfl 110 _ _ rfl _ _ rfl rfl _ _ g4 (by exact size_un) (by rfl) (by simp [Value.oneCell']) ?_; (try go_simp))
                go_at_call 54
                refine (rOrder_det 1 l 0 true n0_0 n0_1 1 l 0 false _ HR.out (by rfl) (by rfl)).mono ?_
                rintro e w2 ⟨rfl, hb⟩
                have hS4 := HS3.out.step hb (Nat.le_refl _)
                have g5 := hS4.bx
                have gw2 := (setRow_other w2 gx gW #[.int .u8 1, .int .u8 l, .int .u8 0] HWne.out.2.1).trans (box_below gw1 hb (box_lt gw1))
                have ha2 := (setRow_other w2 gx ga #[.int .u8 1, .int .u8 l, .int .u8 0] (Ne.symm HAU.out.2)).trans (box_below ha1 hb (box_lt ha1))
                have hS5 := hS4.putX 1 l 0
                clear gw1 ha1 hb hS4 HS3 g4
                clear r0 r1 q0 q1 q2 x0 x1 x2

                have r0 := cell_of_row _ _ 0 _ _ _ hS5.br
                have r1 := cell_of_row _ _ 1 _ _ _ hS5.br
                have q0 := cell_of_row _ _ 0 _ _ _ hS5.bu
                have q1 := cell_of_row _ _ 1 _ _ _ hS5.bu
                have q2 := cell_of_row _ _ 2 _ _ _ hS5.bu
                have x0 := cell_of_row _ _ 0 _ _ _ hS5.bx
                have x1 := cell_of_row _ _ 1 _ _ _ hS5.bx
                have x2 := cell_of_row _ _ 2 _ _ _ hS5.bx
                have v0 := cell_of_row _ _ 0 _ _ _ gw2
                have v1 := cell_of_row _ _ 1 _ _ _ gw2
                have v2 := cell_of_row _ _ 2 _ _ _ gw2
                have HS5 := Lib.hid hS5
                have HA2 := Lib.hid ha2
                clear hS5 gw2 ha2
                go_wp2_with (refine wpList_store_row rfl 111 _ _ rfl _ _ rfl rfl _ _ g5 (by exact size_ru) (by rfl) (by simp [Value.oneCell']) ?_; (try go_simp))
                go_meet
                case rel => exact ⟨1, l, 0, since, bad, ord, rfl, rfl, rfl, HS5.out, HC.out, HA2.out⟩
            · as_aux_lemma =>
                simp only at he
                subst he
                obtain rfl := hl (by decide)
                clear hl hb
                have hS0 := HS1.out
                have hsz := box_lt hS0.bu
                have hsx := box_lt hS0.bx
                have hsr := box_lt hS0.br
                have hsa := box_lt ha
                have hR := HC.out.right
                have hSa := hS0.step ((Below.refl wv.heap.size wv).alloc (Nat.le_refl _) (.cells #[.int .u8 2, .int .u8 0, .int .u8 b] 110)) (Nat.le_refl _)
                have gw := heap_alloc_new wv (.cells #[.int .u8 2, .int .u8 0, .int .u8 b] 110)
                have haa := (Below.heap_alloc wv (.cells #[.int .u8 2, .int .u8 0, .int .u8 b] 110) _ hsa).trans ha
                have a0 := cell_of_row _ _ 0 _ _ _ ha
                have r0 := cell_of_row _ _ 0 _ _ _ hS0.br
                have r1 := cell_of_row _ _ 1 _ _ _ hS0.br
                have q0 := cell_of_row _ _ 0 _ _ _ hS0.bu
                have q1 := cell_of_row _ _ 1 _ _ _ hS0.bu
                have q2 := cell_of_row _ _ 2 _ _ _ hS0.bu
                have x0 := cell_of_row _ _ 0 _ _ _ hS0.bx
                have x1 := cell_of_row _ _ 1 _ _ _ hS0.bx
                have x2 := cell_of_row _ _ 2 _ _ _ hS0.bx
                have HSA := Lib.hid hSa
                have HR := Lib.hid hR
                clear hSa hS0 hR
                go_wp2_with fail
                obtain ⟨gW, hgW⟩ : ∃ g, g = wv.heap.size := ⟨_, rfl⟩
                obtain ⟨wA, hwA⟩ : ∃ wA, wA = wv.alloc (.cells #[.int .u8 2, .int .u8 0, .int .u8 b] 110) := ⟨_, rfl⟩
                have HWne := Lib.hid (show gW ≠ gu ∧ gW ≠ gx ∧ gW ≠ ga by omega)
                rw [← hwA] at HSA haa
                rw [← hwA, ← hgW] at gw
                rw [← hwA, ← hgW]
                clear hgW hwA hsz hsx hsr hsa a0
                clear r0 r1 q0 q1 q2 x0 x1 x2

                go_at_call 53
                refine (Order_det 2 0 b true n0_0 n0_1 2 0 b false _ (by rfl) (by rfl)).mono ?_
                rintro e w1 ⟨rfl, hb⟩
                have hS2 := HSA.out.step hb (Nat.le_refl _)
                have g4 := hS2.bu
                have gw1 := (setRow_other w1 gu gW #[.int .u8 2, .int .u8 0, .int .u8 b] HWne.out.1).trans (box_below gw hb (box_lt gw))
                have ha1 := (setRow_other w1 gu ga #[.int .u8 2, .int .u8 0, .int .u8 b] (Ne.symm HAU.out.1)).trans (box_below haa hb (box_lt haa))
                have hS3 := hS2.putU 2 0 b
                clear HSA gw haa hb hS2
                have r0 := cell_of_row _ _ 0 _ _ _ hS3.br
                have r1 := cell_of_row _ _ 1 _ _ _ hS3.br
                have q0 := cell_of_row _ _ 0 _ _ _ hS3.bu
                have q1 := cell_of_row _ _ 1 _ _ _ hS3.bu
                have q2 := cell_of_row _ _ 2 _ _ _ hS3.bu
                have x0 := cell_of_row _ _ 0 _ _ _ hS3.bx
                have x1 := cell_of_row _ _ 1 _ _ _ hS3.bx
                have x2 := cell_of_row _ _ 2 _ _ _ hS3.bx
                have HS3 := Lib.hid hS3
                clear hS3
                go_wp2_with (refine wpList_store_row rfl 110 _ _ rfl _ _ rfl rfl _ _ g4 (by exact size_un) (by rfl) (by simp [Value.oneCell']) ?_; (try go_simp))
                go_at_call 54
                refine (rOrder_det 2 0 b true n0_0 n0_1 2 0 b false _ HR.out (by rfl) (by rfl)).mono ?_
                rintro e w2 ⟨rfl, hb⟩
                have hS4 := HS3.out.step hb (Nat.le_refl _)
                have g5 := hS4.bx
                have gw2 := (setRow_other w2 gx gW #[.int .u8 2, .int .u8 0, .int .u8 b] HWne.out.2.1).trans (box_below gw1 hb (box_lt gw1))
                have ha2 := (setRow_other w2 gx ga #[.int .u8 2, .int .u8 0, .int .u8 b] (Ne.symm HAU.out.2)).trans (box_below ha1 hb (box_lt ha1))
                have hS5 := hS4.putX 2 0 b
                clear gw1 ha1 hb hS4 HS3 g4
                clear r0 r1 q0 q1 q2 x0 x1 x2

                have r0 := cell_of_row _ _ 0 _ _ _ hS5.br
                have r1 := cell_of_row _ _ 1 _ _ _ hS5.br
                have q0 := cell_of_row _ _ 0 _ _ _ hS5.bu
                have q1 := cell_of_row _ _ 1 _ _ _ hS5.bu
                have q2 := cell_of_row _ _ 2 _ _ _ hS5.bu
                have x0 := cell_of_row _ _ 0 _ _ _ hS5.bx
                have x1 := cell_of_row _ _ 1 _ _ _ hS5.bx
                have x2 := cell_of_row _ _ 2 _ _ _ hS5.bx
                have v0 := cell_of_row _ _ 0 _ _ _ gw2
                have v1 := cell_of_row _ _ 1 _ _ _ gw2
                have v2 := cell_of_row _ _ 2 _ _ _ gw2
                have HS5 := Lib.hid hS5
                have HA2 := Lib.hid ha2
                clear hS5 gw2 ha2
                go_wp2_with (refine wpList_store_row rfl 111 _ _ rfl _ _ rfl rfl _ _ g5 (by exact size_ru) (by rfl) (by simp [Value.oneCell']) ?_; (try go_simp))
                go_meet
                case rel => exact ⟨2, 0, b, since, bad, ord, rfl, rfl, rfl, HS5.out, HC.out, HA2.out⟩
            · as_aux_lemma =>
                simp only at he
                subst he
                clear hl hb
                have hS0 := HS1.out
                have hsz := box_lt hS0.bu
                have hsx := box_lt hS0.bx
                have hsr := box_lt hS0.br
                have hsa := box_lt ha
                have hR := HC.out.right
                have hSa := hS0.step ((Below.refl wv.heap.size wv).alloc (Nat.le_refl _) (.cells #[.int .u8 3, .int .u8 l, .int .u8 b] 110)) (Nat.le_refl _)
                have gw := heap_alloc_new wv (.cells #[.int .u8 3, .int .u8 l, .int .u8 b] 110)
                have haa := (Below.heap_alloc wv (.cells #[.int .u8 3, .int .u8 l, .int .u8 b] 110) _ hsa).trans ha
                have a0 := cell_of_row _ _ 0 _ _ _ ha
                have r0 := cell_of_row _ _ 0 _ _ _ hS0.br
                have r1 := cell_of_row _ _ 1 _ _ _ hS0.br
                have q0 := cell_of_row _ _ 0 _ _ _ hS0.bu
                have q1 := cell_of_row _ _ 1 _ _ _ hS0.bu
                have q2 := cell_of_row _ _ 2 _ _ _ hS0.bu
                have x0 := cell_of_row _ _ 0 _ _ _ hS0.bx
                have x1 := cell_of_row _ _ 1 _ _ _ hS0.bx
                have x2 := cell_of_row _ _ 2 _ _ _ hS0.bx
                have HSA := Lib.hid hSa
                have HR := Lib.hid hR
                clear hSa hS0 hR
                go_wp2_with fail
                obtain ⟨gW, hgW⟩ : ∃ g, g = wv.heap.size := ⟨_, rfl⟩
                obtain ⟨wA, hwA⟩ : ∃ wA, wA = wv.alloc (.cells #[.int .u8 3, .int .u8 l, .int .u8 b] 110) := ⟨_, rfl⟩
                have HWne := Lib.hid (show gW ≠ gu ∧ gW ≠ gx ∧ gW ≠ ga by omega)
                rw [← hwA] at HSA haa
                rw [← hwA, ← hgW] at gw
                rw [← hwA, ← hgW]
                clear hgW hwA hsz hsx hsr hsa a0
                clear r0 r1 q0 q1 q2 x0 x1 x2

                go_at_call 53
                refine (Order_det 3 l b true n0_0 n0_1 1 n0_0 0 true _ (by rfl) (by rfl)).mono ?_
                rintro e w1 ⟨rfl, hb⟩
                have hS2 := HSA.out.step hb (Nat.le_refl _)
                have g4 := hS2.bu
                have gw1 := (setRow_other w1 gu gW #[.int .u8 1, .int .u8 n0_0, .int .u8 0] HWne.out.1).trans (box_below gw hb (box_lt gw))
                have ha1 := (setRow_other w1 gu ga #[.int .u8 1, .int .u8 n0_0, .int .u8 0] (Ne.symm HAU.out.1)).trans (box_below haa hb (box_lt haa))
                have hS3 := hS2.putU 1 n0_0 0
                clear HSA gw haa hb hS2
                have r0 := cell_of_row _ _ 0 _ _ _ hS3.br
                have r1 := cell_of_row _ _ 1 _ _ _ hS3.br
                have q0 := cell_of_row _ _ 0 _ _ _ hS3.bu
                have q1 := cell_of_row _ _ 1 _ _ _ hS3.bu
                have q2 := cell_of_row _ _ 2 _ _ _ hS3.bu
                have x0 := cell_of_row _ _ 0 _ _ _ hS3.bx
                have x1 := cell_of_row _ _ 1 _ _ _ hS3.bx
                have x2 := cell_of_row _ _ 2 _ _ _ hS3.bx
                have HS3 := Lib.hid hS3
                clear hS3
                go_wp2_with (refine wpList_store_row rfl 110 _ _ rfl _ _ rfl rfl _ _ g4 (by exact size_un) (by rfl) (by simp [Value.oneCell']) ?_; (try go_simp))
                go_at_call 54
                refine (rOrder_det 3 l b true n0_0 n0_1 1 n0_0 0 true _ HR.out (by rfl) (by rfl)).mono ?_
                rintro e w2 ⟨rfl, hb⟩
                have hS4 := HS3.out.step hb (Nat.le_refl _)
                have g5 := hS4.bx
                have gw2 := (setRow_other w2 gx gW #[.int .u8 1, .int .u8 n0_0, .int .u8 0] HWne.out.2.1).trans (box_below gw1 hb (box_lt gw1))
                have ha2 := (setRow_other w2 gx ga #[.int .u8 1, .int .u8 n0_0, .int .u8 0] (Ne.symm HAU.out.2)).trans (box_below ha1 hb (box_lt ha1))
                have hS5 := hS4.putX 1 n0_0 0
                clear gw1 ha1 hb hS4 HS3 g4
                clear r0 r1 q0 q1 q2 x0 x1 x2

                have r0 := cell_of_row _ _ 0 _ _ _ hS5.br
                have r1 := cell_of_row _ _ 1 _ _ _ hS5.br
                have q0 := cell_of_row _ _ 0 _ _ _ hS5.bu
                have q1 := cell_of_row _ _ 1 _ _ _ hS5.bu
                have q2 := cell_of_row _ _ 2 _ _ _ hS5.bu
                have x0 := cell_of_row _ _ 0 _ _ _ hS5.bx
                have x1 := cell_of_row _ _ 1 _ _ _ hS5.bx
                have x2 := cell_of_row _ _ 2 _ _ _ hS5.bx
                have v0 := cell_of_row _ _ 0 _ _ _ gw2
                have v1 := cell_of_row _ _ 1 _ _ _ gw2
                have v2 := cell_of_row _ _ 2 _ _ _ gw2
                have HS5 := Lib.hid hS5
                have HA2 := Lib.hid ha2
                clear hS5 gw2 ha2
                go_wp2_with (refine wpList_store_row rfl 111 _ _ rfl _ _ rfl rfl _ _ g5 (by exact size_ru) (by rfl) (by simp [Value.oneCell']) ?_; (try go_simp))
                go_meet
                case rel => exact ⟨1, n0_0, 0, 0, 0, true, rfl, rfl, rfl, HS5.out, ⟨by have := HR.out.ord t0 true; exact this, fun _ => ⟨by omega, rfl, rfl⟩, fun h => absurd h (by decide)⟩, HA2.out⟩
          · have hz1 : 0 < z % 3 := by omega
            have hz2 : (z % 3 == 1) = false := by rw [hm]; rfl
            clear hm
            have hl := HC.out.right.l
            have hb := HC.out.right.b
            simp only at hl hb
            rcases HC.out.right.st with he | he | he | he
            · as_aux_lemma =>
                simp only at he
                subst he
                obtain rfl := hl (by decide)
                obtain rfl := hb (by decide)
                clear hl hb
                have hS0 := HS1.out
                have hsz := box_lt hS0.bu
                have hsx := box_lt hS0.bx
                have hsr := box_lt hS0.br
                have hsa := box_lt ha
                have hR := HC.out.right
                have hSa := hS0.step ((Below.refl wv.heap.size wv).alloc (Nat.le_refl _) (.cells #[.int .u8 0, .int .u8 0, .int .u8 0] 110)) (Nat.le_refl _)
                have gw := heap_alloc_new wv (.cells #[.int .u8 0, .int .u8 0, .int .u8 0] 110)
                have haa := (Below.heap_alloc wv (.cells #[.int .u8 0, .int .u8 0, .int .u8 0] 110) _ hsa).trans ha
                have a0 := cell_of_row _ _ 0 _ _ _ ha
                have r0 := cell_of_row _ _ 0 _ _ _ hS0.br
                have r1 := cell_of_row _ _ 1 _ _ _ hS0.br
                have q0 := cell_of_row _ _ 0 _ _ _ hS0.bu
                have q1 := cell_of_row _ _ 1 _ _ _ hS0.bu
                have q2 := cell_of_row _ _ 2 _ _ _ hS0.bu
                have x0 := cell_of_row _ _ 0 _ _ _ hS0.bx
                have x1 := cell_of_row _ _ 1 _ _ _ hS0.bx
                have x2 := cell_of_row _ _ 2 _ _ _ hS0.bx
                have HSA := Lib.hid hSa
                have HR := Lib.hid hR
                clear hSa hS0 hR
                go_wp2_with fail
                obtain ⟨gW, hgW⟩ : ∃ g, g = wv.heap.size := ⟨_, rfl⟩
                obtain ⟨wA, hwA⟩ : ∃ wA, wA = wv.alloc (.cells #[.int .u8 0, .int .u8 0, .int .u8 0] 110) := ⟨_, rfl⟩
                have HWne := Lib.hid (show gW ≠ gu ∧ gW ≠ gx ∧ gW ≠ ga by omega)
                rw [← hwA] at HSA haa
                rw [← hwA, ← hgW] at gw
                rw [← hwA, ← hgW]
                clear hgW hwA hsz hsx hsr hsa a0
                clear r0 r1 q0 q1 q2 x0 x1 x2

                go_at_call 53
                refine (Order_det 0 0 0 false n0_0 n0_1 0 0 0 false _ (by rfl) (by rfl)).mono ?_
                rintro e w1 ⟨rfl, hb⟩
                have hS2 := HSA.out.step hb (Nat.le_refl _)
                have g4 := hS2.bu
                have gw1 := (setRow_other w1 gu gW #[.int .u8 0, .int .u8 0, .int .u8 0] HWne.out.1).trans (box_below gw hb (box_lt gw))
                have ha1 := (setRow_other w1 gu ga #[.int .u8 0, .int .u8 0, .int .u8 0] (Ne.symm HAU.out.1)).trans (box_below haa hb (box_lt haa))
                have hS3 := hS2.putU 0 0 0
                clear HSA gw haa hb hS2
                have r0 := cell_of_row _ _ 0 _ _ _ hS3.br
                have r1 := cell_of_row _ _ 1 _ _ _ hS3.br
                have q0 := cell_of_row _ _ 0 _ _ _ hS3.bu
                have q1 := cell_of_row _ _ 1 _ _ _ hS3.bu
                have q2 := cell_of_row _ _ 2 _ _ _ hS3.bu
                have x0 := cell_of_row _ _ 0 _ _ _ hS3.bx
                have x1 := cell_of_row _ _ 1 _ _ _ hS3.bx
                have x2 := cell_of_row _ _ 2 _ _ _ hS3.bx
                have HS3 := Lib.hid hS3
                clear hS3
                go_wp2_with (refine wpList_store_row rfl 110 _ _ rfl _ _ rfl rfl _ _ g4 (by exact size_un) (by rfl) (by simp [Value.oneCell']) ?_; (try go_simp))
                go_at_call 54
                refine (rOrder_det 0 0 0 false n0_0 n0_1 0 0 0 false _ HR.out (by rfl) (by rfl)).mono ?_
                rintro e w2 ⟨rfl, hb⟩
                have hS4 := HS3.out.step hb (Nat.le_refl _)
                have g5 := hS4.bx
                have gw2 := (setRow_other w2 gx gW #[.int .u8 0, .int .u8 0, .int .u8 0] HWne.out.2.1).trans (box_below gw1 hb (box_lt gw1))
                have ha2 := (setRow_other w2 gx ga #[.int .u8 0, .int .u8 0, .int .u8 0] (Ne.symm HAU.out.2)).trans (box_below ha1 hb (box_lt ha1))
                have hS5 := hS4.putX 0 0 0
                clear gw1 ha1 hb hS4 HS3 g4
                clear r0 r1 q0 q1 q2 x0 x1 x2

                have r0 := cell_of_row _ _ 0 _ _ _ hS5.br
                have r1 := cell_of_row _ _ 1 _ _ _ hS5.br
                have q0 := cell_of_row _ _ 0 _ _ _ hS5.bu
                have q1 := cell_of_row _ _ 1 _ _ _ hS5.bu
                have q2 := cell_of_row _ _ 2 _ _ _ hS5.bu
                have x0 := cell_of_row _ _ 0 _ _ _ hS5.bx
                have x1 := cell_of_row _ _ 1 _ _ _ hS5.bx
                have x2 := cell_of_row _ _ 2 _ _ _ hS5.bx
                have v0 := cell_of_row _ _ 0 _ _ _ gw2
                have v1 := cell_of_row _ _ 1 _ _ _ gw2
                have v2 := cell_of_row _ _ 2 _ _ _ gw2
                have HS5 := Lib.hid hS5
                have HA2 := Lib.hid ha2
                clear hS5 gw2 ha2
                go_wp2_with (refine wpList_store_row rfl 111 _ _ rfl _ _ rfl rfl _ _ g5 (by exact size_ru) (by rfl) (by simp [Value.oneCell']) ?_; (try go_simp))
                go_meet
                case rel => exact ⟨0, 0, 0, since, bad, ord, rfl, rfl, rfl, HS5.out, HC.out, HA2.out⟩
            · as_aux_lemma =>
                simp only at he
                subst he
                clear hl hb
                have hS0 := HS1.out
                have hsz := box_lt hS0.bu
                have hsx := box_lt hS0.bx
                have hsr := box_lt hS0.br
                have hsa := box_lt ha
                have hR := HC.out.right
                have hSa := hS0.step ((Below.refl wv.heap.size wv).alloc (Nat.le_refl _) (.cells #[.int .u8 1, .int .u8 l, .int .u8 b] 110)) (Nat.le_refl _)
                have gw := heap_alloc_new wv (.cells #[.int .u8 1, .int .u8 l, .int .u8 b] 110)
                have haa := (Below.heap_alloc wv (.cells #[.int .u8 1, .int .u8 l, .int .u8 b] 110) _ hsa).trans ha
                have a0 := cell_of_row _ _ 0 _ _ _ ha
                have r0 := cell_of_row _ _ 0 _ _ _ hS0.br
                have r1 := cell_of_row _ _ 1 _ _ _ hS0.br
                have q0 := cell_of_row _ _ 0 _ _ _ hS0.bu
                have q1 := cell_of_row _ _ 1 _ _ _ hS0.bu
                have q2 := cell_of_row _ _ 2 _ _ _ hS0.bu
                have x0 := cell_of_row _ _ 0 _ _ _ hS0.bx
                have x1 := cell_of_row _ _ 1 _ _ _ hS0.bx
                have x2 := cell_of_row _ _ 2 _ _ _ hS0.bx
                have HSA := Lib.hid hSa
                have HR := Lib.hid hR
                clear hSa hS0 hR
                go_wp2_with fail
                obtain ⟨gW, hgW⟩ : ∃ g, g = wv.heap.size := ⟨_, rfl⟩
                obtain ⟨wA, hwA⟩ : ∃ wA, wA = wv.alloc (.cells #[.int .u8 1, .int .u8 l, .int .u8 b] 110) := ⟨_, rfl⟩
                have HWne := Lib.hid (show gW ≠ gu ∧ gW ≠ gx ∧ gW ≠ ga by omega)
                rw [← hwA] at HSA haa
                rw [← hwA, ← hgW] at gw
                rw [← hwA, ← hgW]
                clear hgW hwA hsz hsx hsr hsa a0
                clear r0 r1 q0 q1 q2 x0 x1 x2

                go_at_call 53
                refine (Order_det 1 l b false n0_0 n0_1 0 0 0 true _ (by rfl) (by rfl)).mono ?_
                rintro e w1 ⟨rfl, hb⟩
                have hS2 := HSA.out.step hb (Nat.le_refl _)
                have g4 := hS2.bu
                have gw1 := (setRow_other w1 gu gW #[.int .u8 0, .int .u8 0, .int .u8 0] HWne.out.1).trans (box_below gw hb (box_lt gw))
                have ha1 := (setRow_other w1 gu ga #[.int .u8 0, .int .u8 0, .int .u8 0] (Ne.symm HAU.out.1)).trans (box_below haa hb (box_lt haa))
                have hS3 := hS2.putU 0 0 0
                clear HSA gw haa hb hS2
                have r0 := cell_of_row _ _ 0 _ _ _ hS3.br
                have r1 := cell_of_row _ _ 1 _ _ _ hS3.br
                have q0 := cell_of_row _ _ 0 _ _ _ hS3.bu
                have q1 := cell_of_row _ _ 1 _ _ _ hS3.bu
                have q2 := cell_of_row _ _ 2 _ _ _ hS3.bu
                have x0 := cell_of_row _ _ 0 _ _ _ hS3.bx
                have x1 := cell_of_row _ _ 1 _ _ _ hS3.bx
                have x2 := cell_of_row _ _ 2 _ _ _ hS3.bx
                have HS3 := Lib.hid hS3
                clear hS3
                go_wp2_with (refine wpList_store_row rfl 110 _ _ rfl _ _ rfl rfl _ _ g4 (by exact size_un) (by rfl) (by simp [Value.oneCell']) ?_; (try go_simp))
                go_at_call 54
                refine (rOrder_det 1 l b false n0_0 n0_1 0 0 0 true _ HR.out (by rfl) (by rfl)).mono ?_
                rintro e w2 ⟨rfl, hb⟩
                have hS4 := HS3.out.step hb (Nat.le_refl _)
                have g5 := hS4.bx
                have gw2 := (setRow_other w2 gx gW #[.int .u8 0, .int .u8 0, .int .u8 0] HWne.out.2.1).trans (box_below gw1 hb (box_lt gw1))
                have ha2 := (setRow_other w2 gx ga #[.int .u8 0, .int .u8 0, .int .u8 0] (Ne.symm HAU.out.2)).trans (box_below ha1 hb (box_lt ha1))
                have hS5 := hS4.putX 0 0 0
                clear gw1 ha1 hb hS4 HS3 g4
                clear r0 r1 q0 q1 q2 x0 x1 x2

                have r0 := cell_of_row _ _ 0 _ _ _ hS5.br
                have r1 := cell_of_row _ _ 1 _ _ _ hS5.br
                have q0 := cell_of_row _ _ 0 _ _ _ hS5.bu
                have q1 := cell_of_row _ _ 1 _ _ _ hS5.bu
                have q2 := cell_of_row _ _ 2 _ _ _ hS5.bu
                have x0 := cell_of_row _ _ 0 _ _ _ hS5.bx
                have x1 := cell_of_row _ _ 1 _ _ _ hS5.bx
                have x2 := cell_of_row _ _ 2 _ _ _ hS5.bx
                have v0 := cell_of_row _ _ 0 _ _ _ gw2
                have v1 := cell_of_row _ _ 1 _ _ _ gw2
                have v2 := cell_of_row _ _ 2 _ _ _ gw2
                have HS5 := Lib.hid hS5
                have HA2 := Lib.hid ha2
                clear hS5 gw2 ha2
                go_wp2_with (refine wpList_store_row rfl 111 _ _ rfl _ _ rfl rfl _ _ g5 (by exact size_ru) (by rfl) (by simp [Value.oneCell']) ?_; (try go_simp))
                go_meet
                case rel => exact ⟨0, 0, 0, 0, 0, false, rfl, rfl, rfl, HS5.out, ⟨Un.Right.off p0 t0, fun h => absurd h (by decide), fun h => absurd h (by decide)⟩, HA2.out⟩
            · as_aux_lemma =>
                simp only at he
                subst he
                clear hl hb
                have hS0 := HS1.out
                have hsz := box_lt hS0.bu
                have hsx := box_lt hS0.bx
                have hsr := box_lt hS0.br
                have hsa := box_lt ha
                have hR := HC.out.right
                have hSa := hS0.step ((Below.refl wv.heap.size wv).alloc (Nat.le_refl _) (.cells #[.int .u8 2, .int .u8 l, .int .u8 b] 110)) (Nat.le_refl _)
                have gw := heap_alloc_new wv (.cells #[.int .u8 2, .int .u8 l, .int .u8 b] 110)
                have haa := (Below.heap_alloc wv (.cells #[.int .u8 2, .int .u8 l, .int .u8 b] 110) _ hsa).trans ha
                have a0 := cell_of_row _ _ 0 _ _ _ ha
                have r0 := cell_of_row _ _ 0 _ _ _ hS0.br
                have r1 := cell_of_row _ _ 1 _ _ _ hS0.br
                have q0 := cell_of_row _ _ 0 _ _ _ hS0.bu
                have q1 := cell_of_row _ _ 1 _ _ _ hS0.bu
                have q2 := cell_of_row _ _ 2 _ _ _ hS0.bu
                have x0 := cell_of_row _ _ 0 _ _ _ hS0.bx
                have x1 := cell_of_row _ _ 1 _ _ _ hS0.bx
                have x2 := cell_of_row _ _ 2 _ _ _ hS0.bx
                have HSA := Lib.hid hSa
                have HR := Lib.hid hR
                clear hSa hS0 hR
                go_wp2_with fail
                obtain ⟨gW, hgW⟩ : ∃ g, g = wv.heap.size := ⟨_, rfl⟩
                obtain ⟨wA, hwA⟩ : ∃ wA, wA = wv.alloc (.cells #[.int .u8 2, .int .u8 l, .int .u8 b] 110) := ⟨_, rfl⟩
                have HWne := Lib.hid (show gW ≠ gu ∧ gW ≠ gx ∧ gW ≠ ga by omega)
                rw [← hwA] at HSA haa
                rw [← hwA, ← hgW] at gw
                rw [← hwA, ← hgW]
                clear hgW hwA hsz hsx hsr hsa a0
                clear r0 r1 q0 q1 q2 x0 x1 x2

                go_at_call 53
                refine (Order_det 2 l b false n0_0 n0_1 0 0 0 true _ (by rfl) (by rfl)).mono ?_
                rintro e w1 ⟨rfl, hb⟩
                have hS2 := HSA.out.step hb (Nat.le_refl _)
                have g4 := hS2.bu
                have gw1 := (setRow_other w1 gu gW #[.int .u8 0, .int .u8 0, .int .u8 0] HWne.out.1).trans (box_below gw hb (box_lt gw))
                have ha1 := (setRow_other w1 gu ga #[.int .u8 0, .int .u8 0, .int .u8 0] (Ne.symm HAU.out.1)).trans (box_below haa hb (box_lt haa))
                have hS3 := hS2.putU 0 0 0
                clear HSA gw haa hb hS2
                have r0 := cell_of_row _ _ 0 _ _ _ hS3.br
                have r1 := cell_of_row _ _ 1 _ _ _ hS3.br
                have q0 := cell_of_row _ _ 0 _ _ _ hS3.bu
                have q1 := cell_of_row _ _ 1 _ _ _ hS3.bu
                have q2 := cell_of_row _ _ 2 _ _ _ hS3.bu
                have x0 := cell_of_row _ _ 0 _ _ _ hS3.bx
                have x1 := cell_of_row _ _ 1 _ _ _ hS3.bx
                have x2 := cell_of_row _ _ 2 _ _ _ hS3.bx
                have HS3 := Lib.hid hS3
                clear hS3
                go_wp2_with (refine wpList_store_row rfl 110 _ _ rfl _ _ rfl rfl _ _ g4 (by exact size_un) (by rfl) (by simp [Value.oneCell']) ?_; (try go_simp))
                go_at_call 54
                refine (rOrder_det 2 l b false n0_0 n0_1 0 0 0 true _ HR.out (by rfl) (by rfl)).mono ?_
                rintro e w2 ⟨rfl, hb⟩
                have hS4 := HS3.out.step hb (Nat.le_refl _)
                have g5 := hS4.bx
                have gw2 := (setRow_other w2 gx gW #[.int .u8 0, .int .u8 0, .int .u8 0] HWne.out.2.1).trans (box_below gw1 hb (box_lt gw1))
                have ha2 := (setRow_other w2 gx ga #[.int .u8 0, .int .u8 0, .int .u8 0] (Ne.symm HAU.out.2)).trans (box_below ha1 hb (box_lt ha1))
                have hS5 := hS4.putX 0 0 0
                clear gw1 ha1 hb hS4 HS3 g4
                clear r0 r1 q0 q1 q2 x0 x1 x2

                have r0 := cell_of_row _ _ 0 _ _ _ hS5.br
                have r1 := cell_of_row _ _ 1 _ _ _ hS5.br
                have q0 := cell_of_row _ _ 0 _ _ _ hS5.bu
                have q1 := cell_of_row _ _ 1 _ _ _ hS5.bu
                have q2 := cell_of_row _ _ 2 _ _ _ hS5.bu
                have x0 := cell_of_row _ _ 0 _ _ _ hS5.bx
                have x1 := cell_of_row _ _ 1 _ _ _ hS5.bx
                have x2 := cell_of_row _ _ 2 _ _ _ hS5.bx
                have v0 := cell_of_row _ _ 0 _ _ _ gw2
                have v1 := cell_of_row _ _ 1 _ _ _ gw2
                have v2 := cell_of_row _ _ 2 _ _ _ gw2
                have HS5 := Lib.hid hS5
                have HA2 := Lib.hid ha2
                clear hS5 gw2 ha2
                go_wp2_with (refine wpList_store_row rfl 111 _ _ rfl _ _ rfl rfl _ _ g5 (by exact size_ru) (by rfl) (by simp [Value.oneCell']) ?_; (try go_simp))
                go_meet
                case rel => exact ⟨0, 0, 0, 0, 0, false, rfl, rfl, rfl, HS5.out, ⟨Un.Right.off p0 t0, fun h => absurd h (by decide), fun h => absurd h (by decide)⟩, HA2.out⟩
            · as_aux_lemma =>
                simp only at he
                subst he
                clear hl hb
                have hS0 := HS1.out
                have hsz := box_lt hS0.bu
                have hsx := box_lt hS0.bx
                have hsr := box_lt hS0.br
                have hsa := box_lt ha
                have hR := HC.out.right
                have hSa := hS0.step ((Below.refl wv.heap.size wv).alloc (Nat.le_refl _) (.cells #[.int .u8 3, .int .u8 l, .int .u8 b] 110)) (Nat.le_refl _)
                have gw := heap_alloc_new wv (.cells #[.int .u8 3, .int .u8 l, .int .u8 b] 110)
                have haa := (Below.heap_alloc wv (.cells #[.int .u8 3, .int .u8 l, .int .u8 b] 110) _ hsa).trans ha
                have a0 := cell_of_row _ _ 0 _ _ _ ha
                have r0 := cell_of_row _ _ 0 _ _ _ hS0.br
                have r1 := cell_of_row _ _ 1 _ _ _ hS0.br
                have q0 := cell_of_row _ _ 0 _ _ _ hS0.bu
                have q1 := cell_of_row _ _ 1 _ _ _ hS0.bu
                have q2 := cell_of_row _ _ 2 _ _ _ hS0.bu
                have x0 := cell_of_row _ _ 0 _ _ _ hS0.bx
                have x1 := cell_of_row _ _ 1 _ _ _ hS0.bx
                have x2 := cell_of_row _ _ 2 _ _ _ hS0.bx
                have HSA := Lib.hid hSa
                have HR := Lib.hid hR
                clear hSa hS0 hR
                go_wp2_with fail
                obtain ⟨gW, hgW⟩ : ∃ g, g = wv.heap.size := ⟨_, rfl⟩
                obtain ⟨wA, hwA⟩ : ∃ wA, wA = wv.alloc (.cells #[.int .u8 3, .int .u8 l, .int .u8 b] 110) := ⟨_, rfl⟩
                have HWne := Lib.hid (show gW ≠ gu ∧ gW ≠ gx ∧ gW ≠ ga by omega)
                rw [← hwA] at HSA haa
                rw [← hwA, ← hgW] at gw
                rw [← hwA, ← hgW]
                clear hgW hwA hsz hsx hsr hsa a0
                clear r0 r1 q0 q1 q2 x0 x1 x2

                go_at_call 53
                refine (Order_det 3 l b false n0_0 n0_1 0 0 0 true _ (by rfl) (by rfl)).mono ?_
                rintro e w1 ⟨rfl, hb⟩
                have hS2 := HSA.out.step hb (Nat.le_refl _)
                have g4 := hS2.bu
                have gw1 := (setRow_other w1 gu gW #[.int .u8 0, .int .u8 0, .int .u8 0] HWne.out.1).trans (box_below gw hb (box_lt gw))
                have ha1 := (setRow_other w1 gu ga #[.int .u8 0, .int .u8 0, .int .u8 0] (Ne.symm HAU.out.1)).trans (box_below haa hb (box_lt haa))
                have hS3 := hS2.putU 0 0 0
                clear HSA gw haa hb hS2
                have r0 := cell_of_row _ _ 0 _ _ _ hS3.br
                have r1 := cell_of_row _ _ 1 _ _ _ hS3.br
                have q0 := cell_of_row _ _ 0 _ _ _ hS3.bu
                have q1 := cell_of_row _ _ 1 _ _ _ hS3.bu
                have q2 := cell_of_row _ _ 2 _ _ _ hS3.bu
                have x0 := cell_of_row _ _ 0 _ _ _ hS3.bx
                have x1 := cell_of_row _ _ 1 _ _ _ hS3.bx
                have x2 := cell_of_row _ _ 2 _ _ _ hS3.bx
                have HS3 := Lib.hid hS3
                clear hS3
                go_wp2_with (refine wpList_store_row rfl 110 _ _ rfl _ _ rfl rfl _ _ g4 (by exact size_un) (by rfl) (by simp [Value.oneCell']) ?_; (try go_simp))
                go_at_call 54
                refine (rOrder_det 3 l b false n0_0 n0_1 0 0 0 true _ HR.out (by rfl) (by rfl)).mono ?_
                rintro e w2 ⟨rfl, hb⟩
                have hS4 := HS3.out.step hb (Nat.le_refl _)
                have g5 := hS4.bx
                have gw2 := (setRow_other w2 gx gW #[.int .u8 0, .int .u8 0, .int .u8 0] HWne.out.2.1).trans (box_below gw1 hb (box_lt gw1))
                have ha2 := (setRow_other w2 gx ga #[.int .u8 0, .int .u8 0, .int .u8 0] (Ne.symm HAU.out.2)).trans (box_below ha1 hb (box_lt ha1))
                have hS5 := hS4.putX 0 0 0
                clear gw1 ha1 hb hS4 HS3 g4
                clear r0 r1 q0 q1 q2 x0 x1 x2

                have r0 := cell_of_row _ _ 0 _ _ _ hS5.br
                have r1 := cell_of_row _ _ 1 _ _ _ hS5.br
                have q0 := cell_of_row _ _ 0 _ _ _ hS5.bu
                have q1 := cell_of_row _ _ 1 _ _ _ hS5.bu
                have q2 := cell_of_row _ _ 2 _ _ _ hS5.bu
                have x0 := cell_of_row _ _ 0 _ _ _ hS5.bx
                have x1 := cell_of_row _ _ 1 _ _ _ hS5.bx
                have x2 := cell_of_row _ _ 2 _ _ _ hS5.bx
                have v0 := cell_of_row _ _ 0 _ _ _ gw2
                have v1 := cell_of_row _ _ 1 _ _ _ gw2
                have v2 := cell_of_row _ _ 2 _ _ _ gw2
                have HS5 := Lib.hid hS5
                have HA2 := Lib.hid ha2
                clear hS5 gw2 ha2
                go_wp2_with (refine wpList_store_row rfl 111 _ _ rfl _ _ rfl rfl _ _ g5 (by exact size_ru) (by rfl) (by simp [Value.oneCell']) ?_; (try go_simp))
                go_meet
                case rel => exact ⟨0, 0, 0, 0, 0, false, rfl, rfl, rfl, HS5.out, ⟨Un.Right.off p0 t0, fun h => absurd h (by decide), fun h => absurd h (by decide)⟩, HA2.out⟩
        case rest =>
          clear HS1 HC ha
          obtain ⟨s, l, b, since, bad, ord, rfl, rfl, rfl, hS, hC, ha⟩ := hcut
          have hB0 : BSt w (wc.alloc (.cells #[.int .u8 s, .int .u8 l, .int .u8 b] 110)) gr gu gx ga wc.heap.size n0_0 n0_1 s l b s l b z ak we s l b := by
            have l1 := box_lt ha
            have l2 := box_lt hS.bu
            have l3 := box_lt hS.bx
            exact ⟨hS.step ((Below.refl wc.heap.size wc).alloc (Nat.le_refl _) _) (Nat.le_refl _), (Below.heap_alloc _ _ _ l1).trans ha, heap_alloc_new _ _, Ne.symm HAU.out.1, Ne.symm HAU.out.2, by omega, by omega⟩
          have r0 := cell_of_row _ _ 0 _ _ _ hS.br
          have r1 := cell_of_row _ _ 1 _ _ _ hS.br
          have q0 := cell_of_row _ _ 0 _ _ _ hS.bu
          have q1 := cell_of_row _ _ 1 _ _ _ hS.bu
          have q2 := cell_of_row _ _ 2 _ _ _ hS.bu
          have x0 := cell_of_row _ _ 0 _ _ _ hS.bx
          have x1 := cell_of_row _ _ 1 _ _ _ hS.bx
          have x2 := cell_of_row _ _ 2 _ _ _ hS.bx
          clear hS ha
          obtain ⟨hR, hC1, hC2⟩ := hC
          have HR2 := Lib.hid (fun a e => hR.step t0 a e)
          obtain ⟨hst, hl, hb, l0, l1, b0, b1⟩ := id hR
          simp only at hst hl hb l0 l1 b0 b1
          have HR := Lib.hid hR
          clear hR
          have hl255 : l ≤ 255 := by omega
          have hb255 : b ≤ 255 := by omega
          go_upto_region 20 with fail
          obtain ⟨wB, hwB⟩ : ∃ wB, wB = wc.alloc (.cells #[.int .u8 s, .int .u8 l, .int .u8 b] 110) := ⟨_, rfl⟩
          obtain ⟨gB, hgB⟩ : ∃ g, g = wc.heap.size := ⟨_, rfl⟩
          rw [← hwB, ← hgB] at hB0
          rw [← hwB, ← hgB]
          clear hwB hgB r0 r1 q0 q1 q2 x0 x1 x2
          skip
          have r0 := cell_of_row _ _ 0 _ _ _ hB0.st.br
          have r1 := cell_of_row _ _ 1 _ _ _ hB0.st.br
          have q0 := cell_of_row _ _ 0 _ _ _ hB0.st.bu
          have q1 := cell_of_row _ _ 1 _ _ _ hB0.st.bu
          have q2 := cell_of_row _ _ 2 _ _ _ hB0.st.bu
          have x0 := cell_of_row _ _ 0 _ _ _ hB0.st.bx
          have x1 := cell_of_row _ _ 1 _ _ _ hB0.st.bx
          have x2 := cell_of_row _ _ 2 _ _ _ hB0.st.bx
          have a1 := cell_of_row _ _ 1 _ _ _ hB0.ba
          have a2 := cell_of_row _ _ 2 _ _ _ hB0.ba
          have v0 := cell_of_row _ _ 0 _ _ _ hB0.bB
          have v1 := cell_of_row _ _ 1 _ _ _ hB0.bB
          have v2 := cell_of_row _ _ 2 _ _ _ hB0.bB
          have HB := Lib.hid hB0
          clear hB0
          rcases hst with rfl | rfl | rfl | rfl
          · as_aux_lemma =>
              obtain rfl := hl (by decide)
              obtain rfl := hb (by decide)
              clear hl hb hC1 hC2
              have HR2 := Lib.hid (show Un.Right ⟨0, 0, 0⟩ n0_0 n0_1 from HR2.out ak we)
              go_wp2_with fail
              go_at_call 55
              refine (Step_det 0 0 0 ak we n0_0 n0_1 0 0 0 0 _ (by omega) (by omega) (by omega) (by omega) t1 (by first | rfl | exact HU.out.1) (by first | rfl | exact HU.out.2)).mono ?_
              rintro e w1 ⟨rfl, hb⟩
              have h4 := HB.out.step hb (Nat.le_refl _)
              have g4 := h4.st.bu
              have h5 := h4.putU 0 0 0
              clear HB hb h4 r0 r1 q0 q1 q2 x0 x1 x2 a1 a2 v0 v1 v2
              skip
              have r0 := cell_of_row _ _ 0 _ _ _ h5.st.br
              have r1 := cell_of_row _ _ 1 _ _ _ h5.st.br
              have q0 := cell_of_row _ _ 0 _ _ _ h5.st.bu
              have q1 := cell_of_row _ _ 1 _ _ _ h5.st.bu
              have q2 := cell_of_row _ _ 2 _ _ _ h5.st.bu
              have x0 := cell_of_row _ _ 0 _ _ _ h5.st.bx
              have x1 := cell_of_row _ _ 1 _ _ _ h5.st.bx
              have x2 := cell_of_row _ _ 2 _ _ _ h5.st.bx
              have a1 := cell_of_row _ _ 1 _ _ _ h5.ba
              have a2 := cell_of_row _ _ 2 _ _ _ h5.ba
              have v0 := cell_of_row _ _ 0 _ _ _ h5.bB
              have v1 := cell_of_row _ _ 1 _ _ _ h5.bB
              have v2 := cell_of_row _ _ 2 _ _ _ h5.bB
              have HB := Lib.hid h5
              clear h5
              go_wp2_with (refine wpList_store_row rfl 110 _ _ rfl _ _ rfl rfl _ _ g4 (by exact size_un) (by rfl) (by simp [Value.oneCell']) ?_; (try go_simp))
              go_at_call 56
              refine (rStep_det 0 0 0 ak we n0_0 n0_1 0 0 0 0 _ HR.out p1 t1 (by first | rfl | exact HU.out.1) (by first | rfl | exact HU.out.2)).mono ?_
              rintro e w2 ⟨rfl, hb⟩
              have h4 := HB.out.step hb (Nat.le_refl _)
              have g5 := h4.st.bx
              have h5 := h4.putX 0 0 0
              clear HB hb h4 g4 r0 r1 q0 q1 q2 x0 x1 x2 a1 a2 v0 v1 v2
              skip
              have r0 := cell_of_row _ _ 0 _ _ _ h5.st.br
              have r1 := cell_of_row _ _ 1 _ _ _ h5.st.br
              have q0 := cell_of_row _ _ 0 _ _ _ h5.st.bu
              have q1 := cell_of_row _ _ 1 _ _ _ h5.st.bu
              have q2 := cell_of_row _ _ 2 _ _ _ h5.st.bu
              have x0 := cell_of_row _ _ 0 _ _ _ h5.st.bx
              have x1 := cell_of_row _ _ 1 _ _ _ h5.st.bx
              have x2 := cell_of_row _ _ 2 _ _ _ h5.st.bx
              have a1 := cell_of_row _ _ 1 _ _ _ h5.ba
              have a2 := cell_of_row _ _ 2 _ _ _ h5.ba
              have v0 := cell_of_row _ _ 0 _ _ _ h5.bB
              have v1 := cell_of_row _ _ 1 _ _ _ h5.bB
              have v2 := cell_of_row _ _ 2 _ _ _ h5.bB
              have HB := Lib.hid h5
              clear h5
              go_wp2_with (refine wpList_store_row rfl 111 _ _ rfl _ _ rfl rfl _ _ g5 (by exact size_ru) (by rfl) (by simp [Value.oneCell']) ?_; (try go_simp))
              go_at_call 57
              refine (Right_yes 0 0 0 n0_0 n0_1 _ HR2.out p1 t1).mono ?_
              rintro e w3 ⟨rfl, hb⟩
              clear g5
              have h5 := HB.out.step hb (Nat.le_refl _)
              clear HB hb
              clear r0 r1 q0 q1 q2 x0 x1 x2 a1 a2 v0 v1 v2
              skip
              have r0 := cell_of_row _ _ 0 _ _ _ h5.st.br
              have r1 := cell_of_row _ _ 1 _ _ _ h5.st.br
              have q0 := cell_of_row _ _ 0 _ _ _ h5.st.bu
              have q1 := cell_of_row _ _ 1 _ _ _ h5.st.bu
              have q2 := cell_of_row _ _ 2 _ _ _ h5.st.bu
              have x0 := cell_of_row _ _ 0 _ _ _ h5.st.bx
              have x1 := cell_of_row _ _ 1 _ _ _ h5.st.bx
              have x2 := cell_of_row _ _ 2 _ _ _ h5.st.bx
              have a1 := cell_of_row _ _ 1 _ _ _ h5.ba
              have a2 := cell_of_row _ _ 2 _ _ _ h5.ba
              have v0 := cell_of_row _ _ 0 _ _ _ h5.bB
              have v1 := cell_of_row _ _ 1 _ _ _ h5.bB
              have v2 := cell_of_row _ _ 2 _ _ _ h5.bB
              have HB := Lib.hid h5
              clear h5
              go_wp2_with fail
              go_at_call 58
              refine (Works_at 0 0 0 _).mono ?_
              rintro e w4 ⟨rfl, hb⟩
              have h5 := HB.out.step hb (Nat.le_refl _)
              clear HB hb
              clear r0 r1 q0 q1 q2 x0 x1 x2 a1 a2 v0 v1 v2
              skip
              have r0 := cell_of_row _ _ 0 _ _ _ h5.st.br
              have r1 := cell_of_row _ _ 1 _ _ _ h5.st.br
              have q0 := cell_of_row _ _ 0 _ _ _ h5.st.bu
              have q1 := cell_of_row _ _ 1 _ _ _ h5.st.bu
              have q2 := cell_of_row _ _ 2 _ _ _ h5.st.bu
              have x0 := cell_of_row _ _ 0 _ _ _ h5.st.bx
              have x1 := cell_of_row _ _ 1 _ _ _ h5.st.bx
              have x2 := cell_of_row _ _ 2 _ _ _ h5.st.bx
              have a1 := cell_of_row _ _ 1 _ _ _ h5.ba
              have a2 := cell_of_row _ _ 2 _ _ _ h5.ba
              have v0 := cell_of_row _ _ 0 _ _ _ h5.bB
              have v1 := cell_of_row _ _ 1 _ _ _ h5.bB
              have v2 := cell_of_row _ _ 2 _ _ _ h5.bB
              have HB := Lib.hid h5
              clear h5
              go_wp2_with fail
              go_at_call 58
              refine (Works_at 0 0 0 _).mono ?_
              rintro e w5 ⟨rfl, hb⟩
              have h5 := HB.out.step hb (Nat.le_refl _)
              clear HB hb
              clear r0 r1 q0 q1 q2 x0 x1 x2 a1 a2 v0 v1 v2
              skip
              have r0 := cell_of_row _ _ 0 _ _ _ h5.st.br
              have r1 := cell_of_row _ _ 1 _ _ _ h5.st.br
              have q0 := cell_of_row _ _ 0 _ _ _ h5.st.bu
              have q1 := cell_of_row _ _ 1 _ _ _ h5.st.bu
              have q2 := cell_of_row _ _ 2 _ _ _ h5.st.bu
              have x0 := cell_of_row _ _ 0 _ _ _ h5.st.bx
              have x1 := cell_of_row _ _ 1 _ _ _ h5.st.bx
              have x2 := cell_of_row _ _ 2 _ _ _ h5.st.bx
              have a1 := cell_of_row _ _ 1 _ _ _ h5.ba
              have a2 := cell_of_row _ _ 2 _ _ _ h5.ba
              have v0 := cell_of_row _ _ 0 _ _ _ h5.bB
              have v1 := cell_of_row _ _ 1 _ _ _ h5.bB
              have v2 := cell_of_row _ _ 2 _ _ _ h5.bB
              have HB := Lib.hid h5
              clear h5
              go_wp2
              go_roundw
              case rel => exact ⟨k + 1, 0, 0, 0, since, bad, ord, by omega, by omega, by go_num, rfl, rfl, rfl, HB.out.st, ⟨HR.out, fun h => absurd h (by decide), fun h => absurd h (by decide)⟩⟩
              case measure => simp [intOf]; omega
          · obtain ⟨hs1, e2, e3⟩ := hC1 rfl
            obtain rfl := hb (by decide)
            subst bad
            subst ord
            have HSN := Lib.hid hs1
            have hs2 : since ≤ n0_0 := by omega
            have hs3 : 0 ≤ since := by omega
            clear hl hb hC1 hC2 hs1
            cases ak
            · by_cases hz : l = 0
              · as_aux_lemma =>
                  subst hz
                  obtain rfl : since = n0_0 := by have := HSN.out; omega
                  have HR2 := Lib.hid (show Un.Right ⟨3, 0, 0⟩ since n0_1 from HR2.out false we)
                  clear HSN
                  go_wp2_with fail
                  go_at_call 55
                  refine (Step_det 1 0 0 false we since n0_1 3 0 0 2 _ (by omega) (by omega) (by omega) (by omega) t1 (by first | rfl | exact HU.out.1) (by first | rfl | exact HU.out.2)).mono ?_
                  rintro e w1 ⟨rfl, hb⟩
                  have h4 := HB.out.step hb (Nat.le_refl _)
                  have g4 := h4.st.bu
                  have h5 := h4.putU 3 0 0
                  clear HB hb h4 r0 r1 q0 q1 q2 x0 x1 x2 a1 a2 v0 v1 v2
                  skip
                  have r0 := cell_of_row _ _ 0 _ _ _ h5.st.br
                  have r1 := cell_of_row _ _ 1 _ _ _ h5.st.br
                  have q0 := cell_of_row _ _ 0 _ _ _ h5.st.bu
                  have q1 := cell_of_row _ _ 1 _ _ _ h5.st.bu
                  have q2 := cell_of_row _ _ 2 _ _ _ h5.st.bu
                  have x0 := cell_of_row _ _ 0 _ _ _ h5.st.bx
                  have x1 := cell_of_row _ _ 1 _ _ _ h5.st.bx
                  have x2 := cell_of_row _ _ 2 _ _ _ h5.st.bx
                  have a1 := cell_of_row _ _ 1 _ _ _ h5.ba
                  have a2 := cell_of_row _ _ 2 _ _ _ h5.ba
                  have v0 := cell_of_row _ _ 0 _ _ _ h5.bB
                  have v1 := cell_of_row _ _ 1 _ _ _ h5.bB
                  have v2 := cell_of_row _ _ 2 _ _ _ h5.bB
                  have HB := Lib.hid h5
                  clear h5
                  go_wp2_with (refine wpList_store_row rfl 110 _ _ rfl _ _ rfl rfl _ _ g4 (by exact size_un) (by rfl) (by simp [Value.oneCell']) ?_; (try go_simp))
                  go_at_call 56
                  refine (rStep_det 1 0 0 false we since n0_1 3 0 0 2 _ HR.out p1 t1 (by first | rfl | exact HU.out.1) (by first | rfl | exact HU.out.2)).mono ?_
                  rintro e w2 ⟨rfl, hb⟩
                  have h4 := HB.out.step hb (Nat.le_refl _)
                  have g5 := h4.st.bx
                  have h5 := h4.putX 3 0 0
                  clear HB hb h4 g4 r0 r1 q0 q1 q2 x0 x1 x2 a1 a2 v0 v1 v2
                  skip
                  have r0 := cell_of_row _ _ 0 _ _ _ h5.st.br
                  have r1 := cell_of_row _ _ 1 _ _ _ h5.st.br
                  have q0 := cell_of_row _ _ 0 _ _ _ h5.st.bu
                  have q1 := cell_of_row _ _ 1 _ _ _ h5.st.bu
                  have q2 := cell_of_row _ _ 2 _ _ _ h5.st.bu
                  have x0 := cell_of_row _ _ 0 _ _ _ h5.st.bx
                  have x1 := cell_of_row _ _ 1 _ _ _ h5.st.bx
                  have x2 := cell_of_row _ _ 2 _ _ _ h5.st.bx
                  have a1 := cell_of_row _ _ 1 _ _ _ h5.ba
                  have a2 := cell_of_row _ _ 2 _ _ _ h5.ba
                  have v0 := cell_of_row _ _ 0 _ _ _ h5.bB
                  have v1 := cell_of_row _ _ 1 _ _ _ h5.bB
                  have v2 := cell_of_row _ _ 2 _ _ _ h5.bB
                  have HB := Lib.hid h5
                  clear h5
                  go_wp2_with (refine wpList_store_row rfl 111 _ _ rfl _ _ rfl rfl _ _ g5 (by exact size_ru) (by rfl) (by simp [Value.oneCell']) ?_; (try go_simp))
                  go_at_call 57
                  refine (Right_yes 3 0 0 since n0_1 _ HR2.out p1 t1).mono ?_
                  rintro e w3 ⟨rfl, hb⟩
                  clear g5
                  have h5 := HB.out.step hb (Nat.le_refl _)
                  clear HB hb
                  clear r0 r1 q0 q1 q2 x0 x1 x2 a1 a2 v0 v1 v2
                  skip
                  have r0 := cell_of_row _ _ 0 _ _ _ h5.st.br
                  have r1 := cell_of_row _ _ 1 _ _ _ h5.st.br
                  have q0 := cell_of_row _ _ 0 _ _ _ h5.st.bu
                  have q1 := cell_of_row _ _ 1 _ _ _ h5.st.bu
                  have q2 := cell_of_row _ _ 2 _ _ _ h5.st.bu
                  have x0 := cell_of_row _ _ 0 _ _ _ h5.st.bx
                  have x1 := cell_of_row _ _ 1 _ _ _ h5.st.bx
                  have x2 := cell_of_row _ _ 2 _ _ _ h5.st.bx
                  have a1 := cell_of_row _ _ 1 _ _ _ h5.ba
                  have a2 := cell_of_row _ _ 2 _ _ _ h5.ba
                  have v0 := cell_of_row _ _ 0 _ _ _ h5.bB
                  have v1 := cell_of_row _ _ 1 _ _ _ h5.bB
                  have v2 := cell_of_row _ _ 2 _ _ _ h5.bB
                  have HB := Lib.hid h5
                  clear h5
                  go_wp2_with fail
                  go_at_call 58
                  refine (Works_at 3 0 0 _).mono ?_
                  rintro e w4 ⟨rfl, hb⟩
                  have h5 := HB.out.step hb (Nat.le_refl _)
                  clear HB hb
                  clear r0 r1 q0 q1 q2 x0 x1 x2 a1 a2 v0 v1 v2
                  skip
                  have r0 := cell_of_row _ _ 0 _ _ _ h5.st.br
                  have r1 := cell_of_row _ _ 1 _ _ _ h5.st.br
                  have q0 := cell_of_row _ _ 0 _ _ _ h5.st.bu
                  have q1 := cell_of_row _ _ 1 _ _ _ h5.st.bu
                  have q2 := cell_of_row _ _ 2 _ _ _ h5.st.bu
                  have x0 := cell_of_row _ _ 0 _ _ _ h5.st.bx
                  have x1 := cell_of_row _ _ 1 _ _ _ h5.st.bx
                  have x2 := cell_of_row _ _ 2 _ _ _ h5.st.bx
                  have a1 := cell_of_row _ _ 1 _ _ _ h5.ba
                  have a2 := cell_of_row _ _ 2 _ _ _ h5.ba
                  have v0 := cell_of_row _ _ 0 _ _ _ h5.bB
                  have v1 := cell_of_row _ _ 1 _ _ _ h5.bB
                  have v2 := cell_of_row _ _ 2 _ _ _ h5.bB
                  have HB := Lib.hid h5
                  clear h5
                  go_wp2_with fail
                  go_at_call 58
                  refine (Works_at 1 0 0 _).mono ?_
                  rintro e w5 ⟨rfl, hb⟩
                  have h5 := HB.out.step hb (Nat.le_refl _)
                  clear HB hb
                  clear r0 r1 q0 q1 q2 x0 x1 x2 a1 a2 v0 v1 v2
                  skip
                  have r0 := cell_of_row _ _ 0 _ _ _ h5.st.br
                  have r1 := cell_of_row _ _ 1 _ _ _ h5.st.br
                  have q0 := cell_of_row _ _ 0 _ _ _ h5.st.bu
                  have q1 := cell_of_row _ _ 1 _ _ _ h5.st.bu
                  have q2 := cell_of_row _ _ 2 _ _ _ h5.st.bu
                  have x0 := cell_of_row _ _ 0 _ _ _ h5.st.bx
                  have x1 := cell_of_row _ _ 1 _ _ _ h5.st.bx
                  have x2 := cell_of_row _ _ 2 _ _ _ h5.st.bx
                  have a1 := cell_of_row _ _ 1 _ _ _ h5.ba
                  have a2 := cell_of_row _ _ 2 _ _ _ h5.ba
                  have v0 := cell_of_row _ _ 0 _ _ _ h5.bB
                  have v1 := cell_of_row _ _ 1 _ _ _ h5.bB
                  have v2 := cell_of_row _ _ 2 _ _ _ h5.bB
                  have HB := Lib.hid h5
                  clear h5
                  go_wp2_with fail
                  go_at_call 58
                  refine (Works_at 1 0 0 _).mono ?_
                  rintro e w6 ⟨rfl, hb⟩
                  have h5 := HB.out.step hb (Nat.le_refl _)
                  clear HB hb
                  clear r0 r1 q0 q1 q2 x0 x1 x2 a1 a2 v0 v1 v2
                  skip
                  have r0 := cell_of_row _ _ 0 _ _ _ h5.st.br
                  have r1 := cell_of_row _ _ 1 _ _ _ h5.st.br
                  have q0 := cell_of_row _ _ 0 _ _ _ h5.st.bu
                  have q1 := cell_of_row _ _ 1 _ _ _ h5.st.bu
                  have q2 := cell_of_row _ _ 2 _ _ _ h5.st.bu
                  have x0 := cell_of_row _ _ 0 _ _ _ h5.st.bx
                  have x1 := cell_of_row _ _ 1 _ _ _ h5.st.bx
                  have x2 := cell_of_row _ _ 2 _ _ _ h5.st.bx
                  have a1 := cell_of_row _ _ 1 _ _ _ h5.ba
                  have a2 := cell_of_row _ _ 2 _ _ _ h5.ba
                  have v0 := cell_of_row _ _ 0 _ _ _ h5.bB
                  have v1 := cell_of_row _ _ 1 _ _ _ h5.bB
                  have v2 := cell_of_row _ _ 2 _ _ _ h5.bB
                  have HB := Lib.hid h5
                  clear h5
                  go_wp2
                  go_roundw
                  case rel => exact ⟨k + 1, 3, 0, 0, _, 0, false, by omega, by omega, by go_num, rfl, rfl, rfl, HB.out.st, ⟨HR2.out, (fun h => absurd h (by decide)), (fun h => absurd h (by decide))⟩⟩
                  case measure => simp [intOf]; omega
              · as_aux_lemma =>
                  have HU := Lib.hid (show Un.mk 1 (l - 1) 0 = uStep ⟨1, l, 0⟩ false we n0_1 ∧ (0 : Int) = uBec ⟨1, l, 0⟩ false we n0_1 by simp [uStep, uBec, hz])
                  have HR2 := Lib.hid (show Un.Right ⟨1, l - 1, 0⟩ n0_0 n0_1 by rw [HU.out.1]; exact HR2.out false we)
                  have hl1 : 1 ≤ l := by omega
                  clear hz
                  go_wp2_with fail
                  go_at_call 55
                  refine (Step_det 1 l 0 false we n0_0 n0_1 1 (l-1) 0 0 _ (by omega) (by omega) (by omega) (by omega) t1 (by first | rfl | exact HU.out.1) (by first | rfl | exact HU.out.2)).mono ?_
                  rintro e w1 ⟨rfl, hb⟩
                  have h4 := HB.out.step hb (Nat.le_refl _)
                  have g4 := h4.st.bu
                  have h5 := h4.putU 1 (l-1) 0
                  clear HB hb h4 r0 r1 q0 q1 q2 x0 x1 x2 a1 a2 v0 v1 v2
                  skip
                  have r0 := cell_of_row _ _ 0 _ _ _ h5.st.br
                  have r1 := cell_of_row _ _ 1 _ _ _ h5.st.br
                  have q0 := cell_of_row _ _ 0 _ _ _ h5.st.bu
                  have q1 := cell_of_row _ _ 1 _ _ _ h5.st.bu
                  have q2 := cell_of_row _ _ 2 _ _ _ h5.st.bu
                  have x0 := cell_of_row _ _ 0 _ _ _ h5.st.bx
                  have x1 := cell_of_row _ _ 1 _ _ _ h5.st.bx
                  have x2 := cell_of_row _ _ 2 _ _ _ h5.st.bx
                  have a1 := cell_of_row _ _ 1 _ _ _ h5.ba
                  have a2 := cell_of_row _ _ 2 _ _ _ h5.ba
                  have v0 := cell_of_row _ _ 0 _ _ _ h5.bB
                  have v1 := cell_of_row _ _ 1 _ _ _ h5.bB
                  have v2 := cell_of_row _ _ 2 _ _ _ h5.bB
                  have HB := Lib.hid h5
                  clear h5
                  go_wp2_with (refine wpList_store_row rfl 110 _ _ rfl _ _ rfl rfl _ _ g4 (by exact size_un) (by rfl) (by simp [Value.oneCell']) ?_; (try go_simp))
                  go_at_call 56
                  refine (rStep_det 1 l 0 false we n0_0 n0_1 1 (l-1) 0 0 _ HR.out p1 t1 (by first | rfl | exact HU.out.1) (by first | rfl | exact HU.out.2)).mono ?_
                  rintro e w2 ⟨rfl, hb⟩
                  have h4 := HB.out.step hb (Nat.le_refl _)
                  have g5 := h4.st.bx
                  have h5 := h4.putX 1 (l-1) 0
                  clear HB hb h4 g4 r0 r1 q0 q1 q2 x0 x1 x2 a1 a2 v0 v1 v2
                  skip
                  have r0 := cell_of_row _ _ 0 _ _ _ h5.st.br
                  have r1 := cell_of_row _ _ 1 _ _ _ h5.st.br
                  have q0 := cell_of_row _ _ 0 _ _ _ h5.st.bu
                  have q1 := cell_of_row _ _ 1 _ _ _ h5.st.bu
                  have q2 := cell_of_row _ _ 2 _ _ _ h5.st.bu
                  have x0 := cell_of_row _ _ 0 _ _ _ h5.st.bx
                  have x1 := cell_of_row _ _ 1 _ _ _ h5.st.bx
                  have x2 := cell_of_row _ _ 2 _ _ _ h5.st.bx
                  have a1 := cell_of_row _ _ 1 _ _ _ h5.ba
                  have a2 := cell_of_row _ _ 2 _ _ _ h5.ba
                  have v0 := cell_of_row _ _ 0 _ _ _ h5.bB
                  have v1 := cell_of_row _ _ 1 _ _ _ h5.bB
                  have v2 := cell_of_row _ _ 2 _ _ _ h5.bB
                  have HB := Lib.hid h5
                  clear h5
                  go_wp2_with (refine wpList_store_row rfl 111 _ _ rfl _ _ rfl rfl _ _ g5 (by exact size_ru) (by rfl) (by simp [Value.oneCell']) ?_; (try go_simp))
                  go_at_call 57
                  refine (Right_yes 1 (l-1) 0 n0_0 n0_1 _ HR2.out p1 t1).mono ?_
                  rintro e w3 ⟨rfl, hb⟩
                  clear g5
                  have h5 := HB.out.step hb (Nat.le_refl _)
                  clear HB hb
                  clear r0 r1 q0 q1 q2 x0 x1 x2 a1 a2 v0 v1 v2
                  skip
                  have r0 := cell_of_row _ _ 0 _ _ _ h5.st.br
                  have r1 := cell_of_row _ _ 1 _ _ _ h5.st.br
                  have q0 := cell_of_row _ _ 0 _ _ _ h5.st.bu
                  have q1 := cell_of_row _ _ 1 _ _ _ h5.st.bu
                  have q2 := cell_of_row _ _ 2 _ _ _ h5.st.bu
                  have x0 := cell_of_row _ _ 0 _ _ _ h5.st.bx
                  have x1 := cell_of_row _ _ 1 _ _ _ h5.st.bx
                  have x2 := cell_of_row _ _ 2 _ _ _ h5.st.bx
                  have a1 := cell_of_row _ _ 1 _ _ _ h5.ba
                  have a2 := cell_of_row _ _ 2 _ _ _ h5.ba
                  have v0 := cell_of_row _ _ 0 _ _ _ h5.bB
                  have v1 := cell_of_row _ _ 1 _ _ _ h5.bB
                  have v2 := cell_of_row _ _ 2 _ _ _ h5.bB
                  have HB := Lib.hid h5
                  clear h5
                  go_wp2_with fail
                  go_at_call 58
                  refine (Works_at 1 (l-1) 0 _).mono ?_
                  rintro e w4 ⟨rfl, hb⟩
                  have h5 := HB.out.step hb (Nat.le_refl _)
                  clear HB hb
                  clear r0 r1 q0 q1 q2 x0 x1 x2 a1 a2 v0 v1 v2
                  skip
                  have r0 := cell_of_row _ _ 0 _ _ _ h5.st.br
                  have r1 := cell_of_row _ _ 1 _ _ _ h5.st.br
                  have q0 := cell_of_row _ _ 0 _ _ _ h5.st.bu
                  have q1 := cell_of_row _ _ 1 _ _ _ h5.st.bu
                  have q2 := cell_of_row _ _ 2 _ _ _ h5.st.bu
                  have x0 := cell_of_row _ _ 0 _ _ _ h5.st.bx
                  have x1 := cell_of_row _ _ 1 _ _ _ h5.st.bx
                  have x2 := cell_of_row _ _ 2 _ _ _ h5.st.bx
                  have a1 := cell_of_row _ _ 1 _ _ _ h5.ba
                  have a2 := cell_of_row _ _ 2 _ _ _ h5.ba
                  have v0 := cell_of_row _ _ 0 _ _ _ h5.bB
                  have v1 := cell_of_row _ _ 1 _ _ _ h5.bB
                  have v2 := cell_of_row _ _ 2 _ _ _ h5.bB
                  have HB := Lib.hid h5
                  clear h5
                  go_wp2_with fail
                  go_at_call 58
                  refine (Works_at 1 l 0 _).mono ?_
                  rintro e w5 ⟨rfl, hb⟩
                  have h5 := HB.out.step hb (Nat.le_refl _)
                  clear HB hb
                  clear r0 r1 q0 q1 q2 x0 x1 x2 a1 a2 v0 v1 v2
                  skip
                  have r0 := cell_of_row _ _ 0 _ _ _ h5.st.br
                  have r1 := cell_of_row _ _ 1 _ _ _ h5.st.br
                  have q0 := cell_of_row _ _ 0 _ _ _ h5.st.bu
                  have q1 := cell_of_row _ _ 1 _ _ _ h5.st.bu
                  have q2 := cell_of_row _ _ 2 _ _ _ h5.st.bu
                  have x0 := cell_of_row _ _ 0 _ _ _ h5.st.bx
                  have x1 := cell_of_row _ _ 1 _ _ _ h5.st.bx
                  have x2 := cell_of_row _ _ 2 _ _ _ h5.st.bx
                  have a1 := cell_of_row _ _ 1 _ _ _ h5.ba
                  have a2 := cell_of_row _ _ 2 _ _ _ h5.ba
                  have v0 := cell_of_row _ _ 0 _ _ _ h5.bB
                  have v1 := cell_of_row _ _ 1 _ _ _ h5.bB
                  have v2 := cell_of_row _ _ 2 _ _ _ h5.bB
                  have HB := Lib.hid h5
                  clear h5
                  go_wp2
                  go_roundw
                  case rel => exact ⟨k + 1, 1, l - 1, 0, since + 1, 0, true, by omega, by omega, by go_num, rfl, rfl, rfl, HB.out.st, ⟨HR2.out, fun _ => ⟨by have := HSN.out; omega, rfl, rfl⟩, (fun h => absurd h (by decide))⟩⟩
                  case measure => simp [intOf]; omega
            · as_aux_lemma =>
                have HR2 := Lib.hid (show Un.Right ⟨2, 0, 0⟩ n0_0 n0_1 from HR2.out true we)
                go_wp2_with fail
                go_at_call 55
                refine (Step_det 1 l 0 true we n0_0 n0_1 2 0 0 1 _ (by omega) (by omega) (by omega) (by omega) t1 (by first | rfl | exact HU.out.1) (by first | rfl | exact HU.out.2)).mono ?_
                rintro e w1 ⟨rfl, hb⟩
                have h4 := HB.out.step hb (Nat.le_refl _)
                have g4 := h4.st.bu
                have h5 := h4.putU 2 0 0
                clear HB hb h4 r0 r1 q0 q1 q2 x0 x1 x2 a1 a2 v0 v1 v2
                skip
                have r0 := cell_of_row _ _ 0 _ _ _ h5.st.br
                have r1 := cell_of_row _ _ 1 _ _ _ h5.st.br
                have q0 := cell_of_row _ _ 0 _ _ _ h5.st.bu
                have q1 := cell_of_row _ _ 1 _ _ _ h5.st.bu
                have q2 := cell_of_row _ _ 2 _ _ _ h5.st.bu
                have x0 := cell_of_row _ _ 0 _ _ _ h5.st.bx
                have x1 := cell_of_row _ _ 1 _ _ _ h5.st.bx
                have x2 := cell_of_row _ _ 2 _ _ _ h5.st.bx
                have a1 := cell_of_row _ _ 1 _ _ _ h5.ba
                have a2 := cell_of_row _ _ 2 _ _ _ h5.ba
                have v0 := cell_of_row _ _ 0 _ _ _ h5.bB
                have v1 := cell_of_row _ _ 1 _ _ _ h5.bB
                have v2 := cell_of_row _ _ 2 _ _ _ h5.bB
                have HB := Lib.hid h5
                clear h5
                go_wp2_with (refine wpList_store_row rfl 110 _ _ rfl _ _ rfl rfl _ _ g4 (by exact size_un) (by rfl) (by simp [Value.oneCell']) ?_; (try go_simp))
                go_at_call 56
                refine (rStep_det 1 l 0 true we n0_0 n0_1 2 0 0 1 _ HR.out p1 t1 (by first | rfl | exact HU.out.1) (by first | rfl | exact HU.out.2)).mono ?_
                rintro e w2 ⟨rfl, hb⟩
                have h4 := HB.out.step hb (Nat.le_refl _)
                have g5 := h4.st.bx
                have h5 := h4.putX 2 0 0
                clear HB hb h4 g4 r0 r1 q0 q1 q2 x0 x1 x2 a1 a2 v0 v1 v2
                skip
                have r0 := cell_of_row _ _ 0 _ _ _ h5.st.br
                have r1 := cell_of_row _ _ 1 _ _ _ h5.st.br
                have q0 := cell_of_row _ _ 0 _ _ _ h5.st.bu
                have q1 := cell_of_row _ _ 1 _ _ _ h5.st.bu
                have q2 := cell_of_row _ _ 2 _ _ _ h5.st.bu
                have x0 := cell_of_row _ _ 0 _ _ _ h5.st.bx
                have x1 := cell_of_row _ _ 1 _ _ _ h5.st.bx
                have x2 := cell_of_row _ _ 2 _ _ _ h5.st.bx
                have a1 := cell_of_row _ _ 1 _ _ _ h5.ba
                have a2 := cell_of_row _ _ 2 _ _ _ h5.ba
                have v0 := cell_of_row _ _ 0 _ _ _ h5.bB
                have v1 := cell_of_row _ _ 1 _ _ _ h5.bB
                have v2 := cell_of_row _ _ 2 _ _ _ h5.bB
                have HB := Lib.hid h5
                clear h5
                go_wp2_with (refine wpList_store_row rfl 111 _ _ rfl _ _ rfl rfl _ _ g5 (by exact size_ru) (by rfl) (by simp [Value.oneCell']) ?_; (try go_simp))
                go_at_call 57
                refine (Right_yes 2 0 0 n0_0 n0_1 _ HR2.out p1 t1).mono ?_
                rintro e w3 ⟨rfl, hb⟩
                clear g5
                have h5 := HB.out.step hb (Nat.le_refl _)
                clear HB hb
                clear r0 r1 q0 q1 q2 x0 x1 x2 a1 a2 v0 v1 v2
                skip
                have r0 := cell_of_row _ _ 0 _ _ _ h5.st.br
                have r1 := cell_of_row _ _ 1 _ _ _ h5.st.br
                have q0 := cell_of_row _ _ 0 _ _ _ h5.st.bu
                have q1 := cell_of_row _ _ 1 _ _ _ h5.st.bu
                have q2 := cell_of_row _ _ 2 _ _ _ h5.st.bu
                have x0 := cell_of_row _ _ 0 _ _ _ h5.st.bx
                have x1 := cell_of_row _ _ 1 _ _ _ h5.st.bx
                have x2 := cell_of_row _ _ 2 _ _ _ h5.st.bx
                have a1 := cell_of_row _ _ 1 _ _ _ h5.ba
                have a2 := cell_of_row _ _ 2 _ _ _ h5.ba
                have v0 := cell_of_row _ _ 0 _ _ _ h5.bB
                have v1 := cell_of_row _ _ 1 _ _ _ h5.bB
                have v2 := cell_of_row _ _ 2 _ _ _ h5.bB
                have HB := Lib.hid h5
                clear h5
                go_wp2_with fail
                go_at_call 58
                refine (Works_at 2 0 0 _).mono ?_
                rintro e w4 ⟨rfl, hb⟩
                have h5 := HB.out.step hb (Nat.le_refl _)
                clear HB hb
                clear r0 r1 q0 q1 q2 x0 x1 x2 a1 a2 v0 v1 v2
                skip
                have r0 := cell_of_row _ _ 0 _ _ _ h5.st.br
                have r1 := cell_of_row _ _ 1 _ _ _ h5.st.br
                have q0 := cell_of_row _ _ 0 _ _ _ h5.st.bu
                have q1 := cell_of_row _ _ 1 _ _ _ h5.st.bu
                have q2 := cell_of_row _ _ 2 _ _ _ h5.st.bu
                have x0 := cell_of_row _ _ 0 _ _ _ h5.st.bx
                have x1 := cell_of_row _ _ 1 _ _ _ h5.st.bx
                have x2 := cell_of_row _ _ 2 _ _ _ h5.st.bx
                have a1 := cell_of_row _ _ 1 _ _ _ h5.ba
                have a2 := cell_of_row _ _ 2 _ _ _ h5.ba
                have v0 := cell_of_row _ _ 0 _ _ _ h5.bB
                have v1 := cell_of_row _ _ 1 _ _ _ h5.bB
                have v2 := cell_of_row _ _ 2 _ _ _ h5.bB
                have HB := Lib.hid h5
                clear h5
                go_wp2_with fail
                go_at_call 58
                refine (Works_at 1 l 0 _).mono ?_
                rintro e w5 ⟨rfl, hb⟩
                have h5 := HB.out.step hb (Nat.le_refl _)
                clear HB hb
                clear r0 r1 q0 q1 q2 x0 x1 x2 a1 a2 v0 v1 v2
                skip
                have r0 := cell_of_row _ _ 0 _ _ _ h5.st.br
                have r1 := cell_of_row _ _ 1 _ _ _ h5.st.br
                have q0 := cell_of_row _ _ 0 _ _ _ h5.st.bu
                have q1 := cell_of_row _ _ 1 _ _ _ h5.st.bu
                have q2 := cell_of_row _ _ 2 _ _ _ h5.st.bu
                have x0 := cell_of_row _ _ 0 _ _ _ h5.st.bx
                have x1 := cell_of_row _ _ 1 _ _ _ h5.st.bx
                have x2 := cell_of_row _ _ 2 _ _ _ h5.st.bx
                have a1 := cell_of_row _ _ 1 _ _ _ h5.ba
                have a2 := cell_of_row _ _ 2 _ _ _ h5.ba
                have v0 := cell_of_row _ _ 0 _ _ _ h5.bB
                have v1 := cell_of_row _ _ 1 _ _ _ h5.bB
                have v2 := cell_of_row _ _ 2 _ _ _ h5.bB
                have HB := Lib.hid h5
                clear h5
                go_wp2
                go_roundw
                case rel => exact ⟨k + 1, 2, 0, 0, since + 1, 0, true, by omega, by omega, by go_num, rfl, rfl, rfl, HB.out.st, ⟨HR2.out, (fun h => absurd h (by decide)), fun _ => ⟨rfl, rfl⟩⟩⟩
                case measure => simp [intOf]; omega
          · obtain ⟨e1, e2⟩ := hC2 rfl
            obtain rfl := hl (by decide)
            subst bad
            subst ord
            clear hl hb hC1 hC2
            cases ak
            ·
              by_cases hz : n0_1 ≤ b
              · as_aux_lemma =>
                  obtain rfl : b = n0_1 := by omega
                  have HR2 := Lib.hid (show Un.Right ⟨3, 0, 0⟩ n0_0 b by have := HR2.out false we; simpa [uStep] using this)
                  have HU := Lib.hid (show Un.mk 3 0 0 = uStep ⟨2, 0, b⟩ false we b ∧ (2 : Int) = uBec ⟨2, 0, b⟩ false we b by simp [uStep, uBec])
                  clear hz
                  go_wp2_with fail
                  go_at_call 55
                  refine (Step_det 2 0 b false we n0_0 b 3 0 0 2 _ (by omega) (by omega) (by omega) (by omega) t1 (by first | rfl | exact HU.out.1) (by first | rfl | exact HU.out.2)).mono ?_
                  rintro e w1 ⟨rfl, hb⟩
                  have h4 := HB.out.step hb (Nat.le_refl _)
                  have g4 := h4.st.bu
                  have h5 := h4.putU 3 0 0
                  clear HB hb h4 r0 r1 q0 q1 q2 x0 x1 x2 a1 a2 v0 v1 v2
                  skip
                  have r0 := cell_of_row _ _ 0 _ _ _ h5.st.br
                  have r1 := cell_of_row _ _ 1 _ _ _ h5.st.br
                  have q0 := cell_of_row _ _ 0 _ _ _ h5.st.bu
                  have q1 := cell_of_row _ _ 1 _ _ _ h5.st.bu
                  have q2 := cell_of_row _ _ 2 _ _ _ h5.st.bu
                  have x0 := cell_of_row _ _ 0 _ _ _ h5.st.bx
                  have x1 := cell_of_row _ _ 1 _ _ _ h5.st.bx
                  have x2 := cell_of_row _ _ 2 _ _ _ h5.st.bx
                  have a1 := cell_of_row _ _ 1 _ _ _ h5.ba
                  have a2 := cell_of_row _ _ 2 _ _ _ h5.ba
                  have v0 := cell_of_row _ _ 0 _ _ _ h5.bB
                  have v1 := cell_of_row _ _ 1 _ _ _ h5.bB
                  have v2 := cell_of_row _ _ 2 _ _ _ h5.bB
                  have HB := Lib.hid h5
                  clear h5
                  go_wp2_with (refine wpList_store_row rfl 110 _ _ rfl _ _ rfl rfl _ _ g4 (by exact size_un) (by rfl) (by simp [Value.oneCell']) ?_; (try go_simp))
                  go_at_call 56
                  refine (rStep_det 2 0 b false we n0_0 b 3 0 0 2 _ HR.out p1 t1 (by first | rfl | exact HU.out.1) (by first | rfl | exact HU.out.2)).mono ?_
                  rintro e w2 ⟨rfl, hb⟩
                  have h4 := HB.out.step hb (Nat.le_refl _)
                  have g5 := h4.st.bx
                  have h5 := h4.putX 3 0 0
                  clear HB hb h4 g4 r0 r1 q0 q1 q2 x0 x1 x2 a1 a2 v0 v1 v2
                  skip
                  have r0 := cell_of_row _ _ 0 _ _ _ h5.st.br
                  have r1 := cell_of_row _ _ 1 _ _ _ h5.st.br
                  have q0 := cell_of_row _ _ 0 _ _ _ h5.st.bu
                  have q1 := cell_of_row _ _ 1 _ _ _ h5.st.bu
                  have q2 := cell_of_row _ _ 2 _ _ _ h5.st.bu
                  have x0 := cell_of_row _ _ 0 _ _ _ h5.st.bx
                  have x1 := cell_of_row _ _ 1 _ _ _ h5.st.bx
                  have x2 := cell_of_row _ _ 2 _ _ _ h5.st.bx
                  have a1 := cell_of_row _ _ 1 _ _ _ h5.ba
                  have a2 := cell_of_row _ _ 2 _ _ _ h5.ba
                  have v0 := cell_of_row _ _ 0 _ _ _ h5.bB
                  have v1 := cell_of_row _ _ 1 _ _ _ h5.bB
                  have v2 := cell_of_row _ _ 2 _ _ _ h5.bB
                  have HB := Lib.hid h5
                  clear h5
                  go_wp2_with (refine wpList_store_row rfl 111 _ _ rfl _ _ rfl rfl _ _ g5 (by exact size_ru) (by rfl) (by simp [Value.oneCell']) ?_; (try go_simp))
                  go_at_call 57
                  refine (Right_yes 3 0 0 n0_0 b _ HR2.out p1 t1).mono ?_
                  rintro e w3 ⟨rfl, hb⟩
                  clear g5
                  have h5 := HB.out.step hb (Nat.le_refl _)
                  clear HB hb
                  clear r0 r1 q0 q1 q2 x0 x1 x2 a1 a2 v0 v1 v2
                  skip
                  have r0 := cell_of_row _ _ 0 _ _ _ h5.st.br
                  have r1 := cell_of_row _ _ 1 _ _ _ h5.st.br
                  have q0 := cell_of_row _ _ 0 _ _ _ h5.st.bu
                  have q1 := cell_of_row _ _ 1 _ _ _ h5.st.bu
                  have q2 := cell_of_row _ _ 2 _ _ _ h5.st.bu
                  have x0 := cell_of_row _ _ 0 _ _ _ h5.st.bx
                  have x1 := cell_of_row _ _ 1 _ _ _ h5.st.bx
                  have x2 := cell_of_row _ _ 2 _ _ _ h5.st.bx
                  have a1 := cell_of_row _ _ 1 _ _ _ h5.ba
                  have a2 := cell_of_row _ _ 2 _ _ _ h5.ba
                  have v0 := cell_of_row _ _ 0 _ _ _ h5.bB
                  have v1 := cell_of_row _ _ 1 _ _ _ h5.bB
                  have v2 := cell_of_row _ _ 2 _ _ _ h5.bB
                  have HB := Lib.hid h5
                  clear h5
                  go_wp2_with fail
                  go_at_call 58
                  refine (Works_at 3 0 0 _).mono ?_
                  rintro e w4 ⟨rfl, hb⟩
                  have h5 := HB.out.step hb (Nat.le_refl _)
                  clear HB hb
                  clear r0 r1 q0 q1 q2 x0 x1 x2 a1 a2 v0 v1 v2
                  skip
                  have r0 := cell_of_row _ _ 0 _ _ _ h5.st.br
                  have r1 := cell_of_row _ _ 1 _ _ _ h5.st.br
                  have q0 := cell_of_row _ _ 0 _ _ _ h5.st.bu
                  have q1 := cell_of_row _ _ 1 _ _ _ h5.st.bu
                  have q2 := cell_of_row _ _ 2 _ _ _ h5.st.bu
                  have x0 := cell_of_row _ _ 0 _ _ _ h5.st.bx
                  have x1 := cell_of_row _ _ 1 _ _ _ h5.st.bx
                  have x2 := cell_of_row _ _ 2 _ _ _ h5.st.bx
                  have a1 := cell_of_row _ _ 1 _ _ _ h5.ba
                  have a2 := cell_of_row _ _ 2 _ _ _ h5.ba
                  have v0 := cell_of_row _ _ 0 _ _ _ h5.bB
                  have v1 := cell_of_row _ _ 1 _ _ _ h5.bB
                  have v2 := cell_of_row _ _ 2 _ _ _ h5.bB
                  have HB := Lib.hid h5
                  clear h5
                  go_wp2_with fail
                  go_at_call 58
                  refine (Works_at 2 0 b _).mono ?_
                  rintro e w5 ⟨rfl, hb⟩
                  have h5 := HB.out.step hb (Nat.le_refl _)
                  clear HB hb
                  clear r0 r1 q0 q1 q2 x0 x1 x2 a1 a2 v0 v1 v2
                  skip
                  have r0 := cell_of_row _ _ 0 _ _ _ h5.st.br
                  have r1 := cell_of_row _ _ 1 _ _ _ h5.st.br
                  have q0 := cell_of_row _ _ 0 _ _ _ h5.st.bu
                  have q1 := cell_of_row _ _ 1 _ _ _ h5.st.bu
                  have q2 := cell_of_row _ _ 2 _ _ _ h5.st.bu
                  have x0 := cell_of_row _ _ 0 _ _ _ h5.st.bx
                  have x1 := cell_of_row _ _ 1 _ _ _ h5.st.bx
                  have x2 := cell_of_row _ _ 2 _ _ _ h5.st.bx
                  have a1 := cell_of_row _ _ 1 _ _ _ h5.ba
                  have a2 := cell_of_row _ _ 2 _ _ _ h5.ba
                  have v0 := cell_of_row _ _ 0 _ _ _ h5.bB
                  have v1 := cell_of_row _ _ 1 _ _ _ h5.bB
                  have v2 := cell_of_row _ _ 2 _ _ _ h5.bB
                  have HB := Lib.hid h5
                  clear h5
                  go_wp2_with fail
                  go_at_call 58
                  refine (Works_at 2 0 b _).mono ?_
                  rintro e w6 ⟨rfl, hb⟩
                  have h5 := HB.out.step hb (Nat.le_refl _)
                  clear HB hb
                  clear r0 r1 q0 q1 q2 x0 x1 x2 a1 a2 v0 v1 v2
                  skip
                  have r0 := cell_of_row _ _ 0 _ _ _ h5.st.br
                  have r1 := cell_of_row _ _ 1 _ _ _ h5.st.br
                  have q0 := cell_of_row _ _ 0 _ _ _ h5.st.bu
                  have q1 := cell_of_row _ _ 1 _ _ _ h5.st.bu
                  have q2 := cell_of_row _ _ 2 _ _ _ h5.st.bu
                  have x0 := cell_of_row _ _ 0 _ _ _ h5.st.bx
                  have x1 := cell_of_row _ _ 1 _ _ _ h5.st.bx
                  have x2 := cell_of_row _ _ 2 _ _ _ h5.st.bx
                  have a1 := cell_of_row _ _ 1 _ _ _ h5.ba
                  have a2 := cell_of_row _ _ 2 _ _ _ h5.ba
                  have v0 := cell_of_row _ _ 0 _ _ _ h5.bB
                  have v1 := cell_of_row _ _ 1 _ _ _ h5.bB
                  have v2 := cell_of_row _ _ 2 _ _ _ h5.bB
                  have HB := Lib.hid h5
                  clear h5
                  go_wp2
                  go_roundw
                  case rel => exact ⟨k + 1, 3, 0, 0, since, b + 1, false, by omega, by omega, by go_num, rfl, rfl, rfl, HB.out.st, ⟨HR2.out, (fun h => absurd h (by decide)), (fun h => absurd h (by decide))⟩⟩
                  case measure => simp [intOf]; omega
              · as_aux_lemma =>
                  have HU := Lib.hid (show Un.mk 2 0 (b + 1) = uStep ⟨2, 0, b⟩ false we n0_1 ∧ (0 : Int) = uBec ⟨2, 0, b⟩ false we n0_1 by simp [uStep, uBec, hz])
                  have HR2 := Lib.hid (show Un.Right ⟨2, 0, b + 1⟩ n0_0 n0_1 by rw [HU.out.1]; exact HR2.out false we)
                  have hz2 : b + 1 ≤ 255 := by omega
                  clear hz
                  go_wp2_with fail
                  go_at_call 55
                  refine (Step_det 2 0 b false we n0_0 n0_1 2 0 (b+1) 0 _ (by omega) (by omega) (by omega) (by omega) t1 (by first | rfl | exact HU.out.1) (by first | rfl | exact HU.out.2)).mono ?_
                  rintro e w1 ⟨rfl, hb⟩
                  have h4 := HB.out.step hb (Nat.le_refl _)
                  have g4 := h4.st.bu
                  have h5 := h4.putU 2 0 (b+1)
                  clear HB hb h4 r0 r1 q0 q1 q2 x0 x1 x2 a1 a2 v0 v1 v2
                  skip
                  have r0 := cell_of_row _ _ 0 _ _ _ h5.st.br
                  have r1 := cell_of_row _ _ 1 _ _ _ h5.st.br
                  have q0 := cell_of_row _ _ 0 _ _ _ h5.st.bu
                  have q1 := cell_of_row _ _ 1 _ _ _ h5.st.bu
                  have q2 := cell_of_row _ _ 2 _ _ _ h5.st.bu
                  have x0 := cell_of_row _ _ 0 _ _ _ h5.st.bx
                  have x1 := cell_of_row _ _ 1 _ _ _ h5.st.bx
                  have x2 := cell_of_row _ _ 2 _ _ _ h5.st.bx
                  have a1 := cell_of_row _ _ 1 _ _ _ h5.ba
                  have a2 := cell_of_row _ _ 2 _ _ _ h5.ba
                  have v0 := cell_of_row _ _ 0 _ _ _ h5.bB
                  have v1 := cell_of_row _ _ 1 _ _ _ h5.bB
                  have v2 := cell_of_row _ _ 2 _ _ _ h5.bB
                  have HB := Lib.hid h5
                  clear h5
                  go_wp2_with (refine wpList_store_row rfl 110 _ _ rfl _ _ rfl rfl _ _ g4 (by exact size_un) (by rfl) (by simp [Value.oneCell']) ?_; (try go_simp))
                  go_at_call 56
                  refine (rStep_det 2 0 b false we n0_0 n0_1 2 0 (b+1) 0 _ HR.out p1 t1 (by first | rfl | exact HU.out.1) (by first | rfl | exact HU.out.2)).mono ?_
                  rintro e w2 ⟨rfl, hb⟩
                  have h4 := HB.out.step hb (Nat.le_refl _)
                  have g5 := h4.st.bx
                  have h5 := h4.putX 2 0 (b+1)
                  clear HB hb h4 g4 r0 r1 q0 q1 q2 x0 x1 x2 a1 a2 v0 v1 v2
                  skip
                  have r0 := cell_of_row _ _ 0 _ _ _ h5.st.br
                  have r1 := cell_of_row _ _ 1 _ _ _ h5.st.br
                  have q0 := cell_of_row _ _ 0 _ _ _ h5.st.bu
                  have q1 := cell_of_row _ _ 1 _ _ _ h5.st.bu
                  have q2 := cell_of_row _ _ 2 _ _ _ h5.st.bu
                  have x0 := cell_of_row _ _ 0 _ _ _ h5.st.bx
                  have x1 := cell_of_row _ _ 1 _ _ _ h5.st.bx
                  have x2 := cell_of_row _ _ 2 _ _ _ h5.st.bx
                  have a1 := cell_of_row _ _ 1 _ _ _ h5.ba
                  have a2 := cell_of_row _ _ 2 _ _ _ h5.ba
                  have v0 := cell_of_row _ _ 0 _ _ _ h5.bB
                  have v1 := cell_of_row _ _ 1 _ _ _ h5.bB
                  have v2 := cell_of_row _ _ 2 _ _ _ h5.bB
                  have HB := Lib.hid h5
                  clear h5
                  go_wp2_with (refine wpList_store_row rfl 111 _ _ rfl _ _ rfl rfl _ _ g5 (by exact size_ru) (by rfl) (by simp [Value.oneCell']) ?_; (try go_simp))
                  go_at_call 57
                  refine (Right_yes 2 0 (b+1) n0_0 n0_1 _ HR2.out p1 t1).mono ?_
                  rintro e w3 ⟨rfl, hb⟩
                  clear g5
                  have h5 := HB.out.step hb (Nat.le_refl _)
                  clear HB hb
                  clear r0 r1 q0 q1 q2 x0 x1 x2 a1 a2 v0 v1 v2
                  skip
                  have r0 := cell_of_row _ _ 0 _ _ _ h5.st.br
                  have r1 := cell_of_row _ _ 1 _ _ _ h5.st.br
                  have q0 := cell_of_row _ _ 0 _ _ _ h5.st.bu
                  have q1 := cell_of_row _ _ 1 _ _ _ h5.st.bu
                  have q2 := cell_of_row _ _ 2 _ _ _ h5.st.bu
                  have x0 := cell_of_row _ _ 0 _ _ _ h5.st.bx
                  have x1 := cell_of_row _ _ 1 _ _ _ h5.st.bx
                  have x2 := cell_of_row _ _ 2 _ _ _ h5.st.bx
                  have a1 := cell_of_row _ _ 1 _ _ _ h5.ba
                  have a2 := cell_of_row _ _ 2 _ _ _ h5.ba
                  have v0 := cell_of_row _ _ 0 _ _ _ h5.bB
                  have v1 := cell_of_row _ _ 1 _ _ _ h5.bB
                  have v2 := cell_of_row _ _ 2 _ _ _ h5.bB
                  have HB := Lib.hid h5
                  clear h5
                  go_wp2_with fail
                  go_at_call 58
                  refine (Works_at 2 0 (b+1) _).mono ?_
                  rintro e w4 ⟨rfl, hb⟩
                  have h5 := HB.out.step hb (Nat.le_refl _)
                  clear HB hb
                  clear r0 r1 q0 q1 q2 x0 x1 x2 a1 a2 v0 v1 v2
                  skip
                  have r0 := cell_of_row _ _ 0 _ _ _ h5.st.br
                  have r1 := cell_of_row _ _ 1 _ _ _ h5.st.br
                  have q0 := cell_of_row _ _ 0 _ _ _ h5.st.bu
                  have q1 := cell_of_row _ _ 1 _ _ _ h5.st.bu
                  have q2 := cell_of_row _ _ 2 _ _ _ h5.st.bu
                  have x0 := cell_of_row _ _ 0 _ _ _ h5.st.bx
                  have x1 := cell_of_row _ _ 1 _ _ _ h5.st.bx
                  have x2 := cell_of_row _ _ 2 _ _ _ h5.st.bx
                  have a1 := cell_of_row _ _ 1 _ _ _ h5.ba
                  have a2 := cell_of_row _ _ 2 _ _ _ h5.ba
                  have v0 := cell_of_row _ _ 0 _ _ _ h5.bB
                  have v1 := cell_of_row _ _ 1 _ _ _ h5.bB
                  have v2 := cell_of_row _ _ 2 _ _ _ h5.bB
                  have HB := Lib.hid h5
                  clear h5
                  go_wp2_with fail
                  go_at_call 58
                  refine (Works_at 2 0 b _).mono ?_
                  rintro e w5 ⟨rfl, hb⟩
                  have h5 := HB.out.step hb (Nat.le_refl _)
                  clear HB hb
                  clear r0 r1 q0 q1 q2 x0 x1 x2 a1 a2 v0 v1 v2
                  skip
                  have r0 := cell_of_row _ _ 0 _ _ _ h5.st.br
                  have r1 := cell_of_row _ _ 1 _ _ _ h5.st.br
                  have q0 := cell_of_row _ _ 0 _ _ _ h5.st.bu
                  have q1 := cell_of_row _ _ 1 _ _ _ h5.st.bu
                  have q2 := cell_of_row _ _ 2 _ _ _ h5.st.bu
                  have x0 := cell_of_row _ _ 0 _ _ _ h5.st.bx
                  have x1 := cell_of_row _ _ 1 _ _ _ h5.st.bx
                  have x2 := cell_of_row _ _ 2 _ _ _ h5.st.bx
                  have a1 := cell_of_row _ _ 1 _ _ _ h5.ba
                  have a2 := cell_of_row _ _ 2 _ _ _ h5.ba
                  have v0 := cell_of_row _ _ 0 _ _ _ h5.bB
                  have v1 := cell_of_row _ _ 1 _ _ _ h5.bB
                  have v2 := cell_of_row _ _ 2 _ _ _ h5.bB
                  have HB := Lib.hid h5
                  clear h5
                  go_wp2
                  go_roundw
                  case rel => exact ⟨k + 1, 2, 0, b + 1, since, b + 1, true, by omega, by omega, by go_num, rfl, rfl, rfl, HB.out.st, ⟨HR2.out, (fun h => absurd h (by decide)), fun _ => ⟨rfl, rfl⟩⟩⟩
                  case measure => simp [intOf]; omega

            · cases we
              ·
                by_cases hz : n0_1 ≤ b
                · as_aux_lemma =>
                    obtain rfl : b = n0_1 := by omega
                    have HR2 := Lib.hid (show Un.Right ⟨3, 0, 0⟩ n0_0 b by have := HR2.out true false; simpa [uStep] using this)
                    have HU := Lib.hid (show Un.mk 3 0 0 = uStep ⟨2, 0, b⟩ true false b ∧ (2 : Int) = uBec ⟨2, 0, b⟩ true false b by simp [uStep, uBec])
                    clear hz
                    go_wp2_with fail
                    go_at_call 55
                    refine (Step_det 2 0 b true false n0_0 b 3 0 0 2 _ (by omega) (by omega) (by omega) (by omega) t1 (by first | rfl | exact HU.out.1) (by first | rfl | exact HU.out.2)).mono ?_
                    rintro e w1 ⟨rfl, hb⟩
                    have h4 := HB.out.step hb (Nat.le_refl _)
                    have g4 := h4.st.bu
                    have h5 := h4.putU 3 0 0
                    clear HB hb h4 r0 r1 q0 q1 q2 x0 x1 x2 a1 a2 v0 v1 v2
                    skip
                    have r0 := cell_of_row _ _ 0 _ _ _ h5.st.br
                    have r1 := cell_of_row _ _ 1 _ _ _ h5.st.br
                    have q0 := cell_of_row _ _ 0 _ _ _ h5.st.bu
                    have q1 := cell_of_row _ _ 1 _ _ _ h5.st.bu
                    have q2 := cell_of_row _ _ 2 _ _ _ h5.st.bu
                    have x0 := cell_of_row _ _ 0 _ _ _ h5.st.bx
                    have x1 := cell_of_row _ _ 1 _ _ _ h5.st.bx
                    have x2 := cell_of_row _ _ 2 _ _ _ h5.st.bx
                    have a1 := cell_of_row _ _ 1 _ _ _ h5.ba
                    have a2 := cell_of_row _ _ 2 _ _ _ h5.ba
                    have v0 := cell_of_row _ _ 0 _ _ _ h5.bB
                    have v1 := cell_of_row _ _ 1 _ _ _ h5.bB
                    have v2 := cell_of_row _ _ 2 _ _ _ h5.bB
                    have HB := Lib.hid h5
                    clear h5
                    go_wp2_with (refine wpList_store_row rfl 110 _ _ rfl _ _ rfl rfl _ _ g4 (by exact size_un) (by rfl) (by simp [Value.oneCell']) ?_; (try go_simp))
                    go_at_call 56
                    refine (rStep_det 2 0 b true false n0_0 b 3 0 0 2 _ HR.out p1 t1 (by first | rfl | exact HU.out.1) (by first | rfl | exact HU.out.2)).mono ?_
                    rintro e w2 ⟨rfl, hb⟩
                    have h4 := HB.out.step hb (Nat.le_refl _)
                    have g5 := h4.st.bx
                    have h5 := h4.putX 3 0 0
                    clear HB hb h4 g4 r0 r1 q0 q1 q2 x0 x1 x2 a1 a2 v0 v1 v2
                    skip
                    have r0 := cell_of_row _ _ 0 _ _ _ h5.st.br
                    have r1 := cell_of_row _ _ 1 _ _ _ h5.st.br
                    have q0 := cell_of_row _ _ 0 _ _ _ h5.st.bu
                    have q1 := cell_of_row _ _ 1 _ _ _ h5.st.bu
                    have q2 := cell_of_row _ _ 2 _ _ _ h5.st.bu
                    have x0 := cell_of_row _ _ 0 _ _ _ h5.st.bx
                    have x1 := cell_of_row _ _ 1 _ _ _ h5.st.bx
                    have x2 := cell_of_row _ _ 2 _ _ _ h5.st.bx
                    have a1 := cell_of_row _ _ 1 _ _ _ h5.ba
                    have a2 := cell_of_row _ _ 2 _ _ _ h5.ba
                    have v0 := cell_of_row _ _ 0 _ _ _ h5.bB
                    have v1 := cell_of_row _ _ 1 _ _ _ h5.bB
                    have v2 := cell_of_row _ _ 2 _ _ _ h5.bB
                    have HB := Lib.hid h5
                    clear h5
                    go_wp2_with (refine wpList_store_row rfl 111 _ _ rfl _ _ rfl rfl _ _ g5 (by exact size_ru) (by rfl) (by simp [Value.oneCell']) ?_; (try go_simp))
                    go_at_call 57
                    refine (Right_yes 3 0 0 n0_0 b _ HR2.out p1 t1).mono ?_
                    rintro e w3 ⟨rfl, hb⟩
                    clear g5
                    have h5 := HB.out.step hb (Nat.le_refl _)
                    clear HB hb
                    clear r0 r1 q0 q1 q2 x0 x1 x2 a1 a2 v0 v1 v2
                    skip
                    have r0 := cell_of_row _ _ 0 _ _ _ h5.st.br
                    have r1 := cell_of_row _ _ 1 _ _ _ h5.st.br
                    have q0 := cell_of_row _ _ 0 _ _ _ h5.st.bu
                    have q1 := cell_of_row _ _ 1 _ _ _ h5.st.bu
                    have q2 := cell_of_row _ _ 2 _ _ _ h5.st.bu
                    have x0 := cell_of_row _ _ 0 _ _ _ h5.st.bx
                    have x1 := cell_of_row _ _ 1 _ _ _ h5.st.bx
                    have x2 := cell_of_row _ _ 2 _ _ _ h5.st.bx
                    have a1 := cell_of_row _ _ 1 _ _ _ h5.ba
                    have a2 := cell_of_row _ _ 2 _ _ _ h5.ba
                    have v0 := cell_of_row _ _ 0 _ _ _ h5.bB
                    have v1 := cell_of_row _ _ 1 _ _ _ h5.bB
                    have v2 := cell_of_row _ _ 2 _ _ _ h5.bB
                    have HB := Lib.hid h5
                    clear h5
                    go_wp2_with fail
                    go_at_call 58
                    refine (Works_at 3 0 0 _).mono ?_
                    rintro e w4 ⟨rfl, hb⟩
                    have h5 := HB.out.step hb (Nat.le_refl _)
                    clear HB hb
                    clear r0 r1 q0 q1 q2 x0 x1 x2 a1 a2 v0 v1 v2
                    skip
                    have r0 := cell_of_row _ _ 0 _ _ _ h5.st.br
                    have r1 := cell_of_row _ _ 1 _ _ _ h5.st.br
                    have q0 := cell_of_row _ _ 0 _ _ _ h5.st.bu
                    have q1 := cell_of_row _ _ 1 _ _ _ h5.st.bu
                    have q2 := cell_of_row _ _ 2 _ _ _ h5.st.bu
                    have x0 := cell_of_row _ _ 0 _ _ _ h5.st.bx
                    have x1 := cell_of_row _ _ 1 _ _ _ h5.st.bx
                    have x2 := cell_of_row _ _ 2 _ _ _ h5.st.bx
                    have a1 := cell_of_row _ _ 1 _ _ _ h5.ba
                    have a2 := cell_of_row _ _ 2 _ _ _ h5.ba
                    have v0 := cell_of_row _ _ 0 _ _ _ h5.bB
                    have v1 := cell_of_row _ _ 1 _ _ _ h5.bB
                    have v2 := cell_of_row _ _ 2 _ _ _ h5.bB
                    have HB := Lib.hid h5
                    clear h5
                    go_wp2_with fail
                    go_at_call 58
                    refine (Works_at 2 0 b _).mono ?_
                    rintro e w5 ⟨rfl, hb⟩
                    have h5 := HB.out.step hb (Nat.le_refl _)
                    clear HB hb
                    clear r0 r1 q0 q1 q2 x0 x1 x2 a1 a2 v0 v1 v2
                    skip
                    have r0 := cell_of_row _ _ 0 _ _ _ h5.st.br
                    have r1 := cell_of_row _ _ 1 _ _ _ h5.st.br
                    have q0 := cell_of_row _ _ 0 _ _ _ h5.st.bu
                    have q1 := cell_of_row _ _ 1 _ _ _ h5.st.bu
                    have q2 := cell_of_row _ _ 2 _ _ _ h5.st.bu
                    have x0 := cell_of_row _ _ 0 _ _ _ h5.st.bx
                    have x1 := cell_of_row _ _ 1 _ _ _ h5.st.bx
                    have x2 := cell_of_row _ _ 2 _ _ _ h5.st.bx
                    have a1 := cell_of_row _ _ 1 _ _ _ h5.ba
                    have a2 := cell_of_row _ _ 2 _ _ _ h5.ba
                    have v0 := cell_of_row _ _ 0 _ _ _ h5.bB
                    have v1 := cell_of_row _ _ 1 _ _ _ h5.bB
                    have v2 := cell_of_row _ _ 2 _ _ _ h5.bB
                    have HB := Lib.hid h5
                    clear h5
                    go_wp2_with fail
                    go_at_call 58
                    refine (Works_at 2 0 b _).mono ?_
                    rintro e w6 ⟨rfl, hb⟩
                    have h5 := HB.out.step hb (Nat.le_refl _)
                    clear HB hb
                    clear r0 r1 q0 q1 q2 x0 x1 x2 a1 a2 v0 v1 v2
                    skip
                    have r0 := cell_of_row _ _ 0 _ _ _ h5.st.br
                    have r1 := cell_of_row _ _ 1 _ _ _ h5.st.br
                    have q0 := cell_of_row _ _ 0 _ _ _ h5.st.bu
                    have q1 := cell_of_row _ _ 1 _ _ _ h5.st.bu
                    have q2 := cell_of_row _ _ 2 _ _ _ h5.st.bu
                    have x0 := cell_of_row _ _ 0 _ _ _ h5.st.bx
                    have x1 := cell_of_row _ _ 1 _ _ _ h5.st.bx
                    have x2 := cell_of_row _ _ 2 _ _ _ h5.st.bx
                    have a1 := cell_of_row _ _ 1 _ _ _ h5.ba
                    have a2 := cell_of_row _ _ 2 _ _ _ h5.ba
                    have v0 := cell_of_row _ _ 0 _ _ _ h5.bB
                    have v1 := cell_of_row _ _ 1 _ _ _ h5.bB
                    have v2 := cell_of_row _ _ 2 _ _ _ h5.bB
                    have HB := Lib.hid h5
                    clear h5
                    go_wp2
                    go_roundw
                    case rel => exact ⟨k + 1, 3, 0, 0, since, b + 1, false, by omega, by omega, by go_num, rfl, rfl, rfl, HB.out.st, ⟨HR2.out, (fun h => absurd h (by decide)), (fun h => absurd h (by decide))⟩⟩
                    case measure => simp [intOf]; omega
                · as_aux_lemma =>
                    have HU := Lib.hid (show Un.mk 2 0 (b + 1) = uStep ⟨2, 0, b⟩ true false n0_1 ∧ (0 : Int) = uBec ⟨2, 0, b⟩ true false n0_1 by simp [uStep, uBec, hz])
                    have HR2 := Lib.hid (show Un.Right ⟨2, 0, b + 1⟩ n0_0 n0_1 by rw [HU.out.1]; exact HR2.out true false)
                    have hz2 : b + 1 ≤ 255 := by omega
                    clear hz
                    go_wp2_with fail
                    go_at_call 55
                    refine (Step_det 2 0 b true false n0_0 n0_1 2 0 (b+1) 0 _ (by omega) (by omega) (by omega) (by omega) t1 (by first | rfl | exact HU.out.1) (by first | rfl | exact HU.out.2)).mono ?_
                    rintro e w1 ⟨rfl, hb⟩
                    have h4 := HB.out.step hb (Nat.le_refl _)
                    have g4 := h4.st.bu
                    have h5 := h4.putU 2 0 (b+1)
                    clear HB hb h4 r0 r1 q0 q1 q2 x0 x1 x2 a1 a2 v0 v1 v2
                    skip
                    have r0 := cell_of_row _ _ 0 _ _ _ h5.st.br
                    have r1 := cell_of_row _ _ 1 _ _ _ h5.st.br
                    have q0 := cell_of_row _ _ 0 _ _ _ h5.st.bu
                    have q1 := cell_of_row _ _ 1 _ _ _ h5.st.bu
                    have q2 := cell_of_row _ _ 2 _ _ _ h5.st.bu
                    have x0 := cell_of_row _ _ 0 _ _ _ h5.st.bx
                    have x1 := cell_of_row _ _ 1 _ _ _ h5.st.bx
                    have x2 := cell_of_row _ _ 2 _ _ _ h5.st.bx
                    have a1 := cell_of_row _ _ 1 _ _ _ h5.ba
                    have a2 := cell_of_row _ _ 2 _ _ _ h5.ba
                    have v0 := cell_of_row _ _ 0 _ _ _ h5.bB
                    have v1 := cell_of_row _ _ 1 _ _ _ h5.bB
                    have v2 := cell_of_row _ _ 2 _ _ _ h5.bB
                    have HB := Lib.hid h5
                    clear h5
                    go_wp2_with (refine wpList_store_row rfl 110 _ _ rfl _ _ rfl rfl _ _ g4 (by exact size_un) (by rfl) (by simp [Value.oneCell']) ?_; (try go_simp))
                    go_at_call 56
                    refine (rStep_det 2 0 b true false n0_0 n0_1 2 0 (b+1) 0 _ HR.out p1 t1 (by first | rfl | exact HU.out.1) (by first | rfl | exact HU.out.2)).mono ?_
                    rintro e w2 ⟨rfl, hb⟩
                    have h4 := HB.out.step hb (Nat.le_refl _)
                    have g5 := h4.st.bx
                    have h5 := h4.putX 2 0 (b+1)
                    clear HB hb h4 g4 r0 r1 q0 q1 q2 x0 x1 x2 a1 a2 v0 v1 v2
                    skip
                    have r0 := cell_of_row _ _ 0 _ _ _ h5.st.br
                    have r1 := cell_of_row _ _ 1 _ _ _ h5.st.br
                    have q0 := cell_of_row _ _ 0 _ _ _ h5.st.bu
                    have q1 := cell_of_row _ _ 1 _ _ _ h5.st.bu
                    have q2 := cell_of_row _ _ 2 _ _ _ h5.st.bu
                    have x0 := cell_of_row _ _ 0 _ _ _ h5.st.bx
                    have x1 := cell_of_row _ _ 1 _ _ _ h5.st.bx
                    have x2 := cell_of_row _ _ 2 _ _ _ h5.st.bx
                    have a1 := cell_of_row _ _ 1 _ _ _ h5.ba
                    have a2 := cell_of_row _ _ 2 _ _ _ h5.ba
                    have v0 := cell_of_row _ _ 0 _ _ _ h5.bB
                    have v1 := cell_of_row _ _ 1 _ _ _ h5.bB
                    have v2 := cell_of_row _ _ 2 _ _ _ h5.bB
                    have HB := Lib.hid h5
                    clear h5
                    go_wp2_with (refine wpList_store_row rfl 111 _ _ rfl _ _ rfl rfl _ _ g5 (by exact size_ru) (by rfl) (by simp [Value.oneCell']) ?_; (try go_simp))
                    go_at_call 57
                    refine (Right_yes 2 0 (b+1) n0_0 n0_1 _ HR2.out p1 t1).mono ?_
                    rintro e w3 ⟨rfl, hb⟩
                    clear g5
                    have h5 := HB.out.step hb (Nat.le_refl _)
                    clear HB hb
                    clear r0 r1 q0 q1 q2 x0 x1 x2 a1 a2 v0 v1 v2
                    skip
                    have r0 := cell_of_row _ _ 0 _ _ _ h5.st.br
                    have r1 := cell_of_row _ _ 1 _ _ _ h5.st.br
                    have q0 := cell_of_row _ _ 0 _ _ _ h5.st.bu
                    have q1 := cell_of_row _ _ 1 _ _ _ h5.st.bu
                    have q2 := cell_of_row _ _ 2 _ _ _ h5.st.bu
                    have x0 := cell_of_row _ _ 0 _ _ _ h5.st.bx
                    have x1 := cell_of_row _ _ 1 _ _ _ h5.st.bx
                    have x2 := cell_of_row _ _ 2 _ _ _ h5.st.bx
                    have a1 := cell_of_row _ _ 1 _ _ _ h5.ba
                    have a2 := cell_of_row _ _ 2 _ _ _ h5.ba
                    have v0 := cell_of_row _ _ 0 _ _ _ h5.bB
                    have v1 := cell_of_row _ _ 1 _ _ _ h5.bB
                    have v2 := cell_of_row _ _ 2 _ _ _ h5.bB
                    have HB := Lib.hid h5
                    clear h5
                    go_wp2_with fail
                    go_at_call 58
                    refine (Works_at 2 0 (b+1) _).mono ?_
                    rintro e w4 ⟨rfl, hb⟩
                    have h5 := HB.out.step hb (Nat.le_refl _)
                    clear HB hb
                    clear r0 r1 q0 q1 q2 x0 x1 x2 a1 a2 v0 v1 v2
                    skip
                    have r0 := cell_of_row _ _ 0 _ _ _ h5.st.br
                    have r1 := cell_of_row _ _ 1 _ _ _ h5.st.br
                    have q0 := cell_of_row _ _ 0 _ _ _ h5.st.bu
                    have q1 := cell_of_row _ _ 1 _ _ _ h5.st.bu
                    have q2 := cell_of_row _ _ 2 _ _ _ h5.st.bu
                    have x0 := cell_of_row _ _ 0 _ _ _ h5.st.bx
                    have x1 := cell_of_row _ _ 1 _ _ _ h5.st.bx
                    have x2 := cell_of_row _ _ 2 _ _ _ h5.st.bx
                    have a1 := cell_of_row _ _ 1 _ _ _ h5.ba
                    have a2 := cell_of_row _ _ 2 _ _ _ h5.ba
                    have v0 := cell_of_row _ _ 0 _ _ _ h5.bB
                    have v1 := cell_of_row _ _ 1 _ _ _ h5.bB
                    have v2 := cell_of_row _ _ 2 _ _ _ h5.bB
                    have HB := Lib.hid h5
                    clear h5
                    go_wp2_with fail
                    go_at_call 58
                    refine (Works_at 2 0 b _).mono ?_
                    rintro e w5 ⟨rfl, hb⟩
                    have h5 := HB.out.step hb (Nat.le_refl _)
                    clear HB hb
                    clear r0 r1 q0 q1 q2 x0 x1 x2 a1 a2 v0 v1 v2
                    skip
                    have r0 := cell_of_row _ _ 0 _ _ _ h5.st.br
                    have r1 := cell_of_row _ _ 1 _ _ _ h5.st.br
                    have q0 := cell_of_row _ _ 0 _ _ _ h5.st.bu
                    have q1 := cell_of_row _ _ 1 _ _ _ h5.st.bu
                    have q2 := cell_of_row _ _ 2 _ _ _ h5.st.bu
                    have x0 := cell_of_row _ _ 0 _ _ _ h5.st.bx
                    have x1 := cell_of_row _ _ 1 _ _ _ h5.st.bx
                    have x2 := cell_of_row _ _ 2 _ _ _ h5.st.bx
                    have a1 := cell_of_row _ _ 1 _ _ _ h5.ba
                    have a2 := cell_of_row _ _ 2 _ _ _ h5.ba
                    have v0 := cell_of_row _ _ 0 _ _ _ h5.bB
                    have v1 := cell_of_row _ _ 1 _ _ _ h5.bB
                    have v2 := cell_of_row _ _ 2 _ _ _ h5.bB
                    have HB := Lib.hid h5
                    clear h5
                    go_wp2
                    go_roundw
                    case rel => exact ⟨k + 1, 2, 0, b + 1, since, b + 1, true, by omega, by omega, by go_num, rfl, rfl, rfl, HB.out.st, ⟨HR2.out, (fun h => absurd h (by decide)), fun _ => ⟨rfl, rfl⟩⟩⟩
                    case measure => simp [intOf]; omega

              · as_aux_lemma =>
                  have HR2 := Lib.hid (show Un.Right ⟨2, 0, 0⟩ n0_0 n0_1 from HR2.out true true)
                  go_wp2_with fail
                  go_at_call 55
                  refine (Step_det 2 0 b true true n0_0 n0_1 2 0 0 0 _ (by omega) (by omega) (by omega) (by omega) t1 (by first | rfl | exact HU.out.1) (by first | rfl | exact HU.out.2)).mono ?_
                  rintro e w1 ⟨rfl, hb⟩
                  have h4 := HB.out.step hb (Nat.le_refl _)
                  have g4 := h4.st.bu
                  have h5 := h4.putU 2 0 0
                  clear HB hb h4 r0 r1 q0 q1 q2 x0 x1 x2 a1 a2 v0 v1 v2
                  skip
                  have r0 := cell_of_row _ _ 0 _ _ _ h5.st.br
                  have r1 := cell_of_row _ _ 1 _ _ _ h5.st.br
                  have q0 := cell_of_row _ _ 0 _ _ _ h5.st.bu
                  have q1 := cell_of_row _ _ 1 _ _ _ h5.st.bu
                  have q2 := cell_of_row _ _ 2 _ _ _ h5.st.bu
                  have x0 := cell_of_row _ _ 0 _ _ _ h5.st.bx
                  have x1 := cell_of_row _ _ 1 _ _ _ h5.st.bx
                  have x2 := cell_of_row _ _ 2 _ _ _ h5.st.bx
                  have a1 := cell_of_row _ _ 1 _ _ _ h5.ba
                  have a2 := cell_of_row _ _ 2 _ _ _ h5.ba
                  have v0 := cell_of_row _ _ 0 _ _ _ h5.bB
                  have v1 := cell_of_row _ _ 1 _ _ _ h5.bB
                  have v2 := cell_of_row _ _ 2 _ _ _ h5.bB
                  have HB := Lib.hid h5
                  clear h5
                  go_wp2_with (refine wpList_store_row rfl 110 _ _ rfl _ _ rfl rfl _ _ g4 (by exact size_un) (by rfl) (by simp [Value.oneCell']) ?_; (try go_simp))
                  go_at_call 56
                  refine (rStep_det 2 0 b true true n0_0 n0_1 2 0 0 0 _ HR.out p1 t1 (by first | rfl | exact HU.out.1) (by first | rfl | exact HU.out.2)).mono ?_
                  rintro e w2 ⟨rfl, hb⟩
                  have h4 := HB.out.step hb (Nat.le_refl _)
                  have g5 := h4.st.bx
                  have h5 := h4.putX 2 0 0
                  clear HB hb h4 g4 r0 r1 q0 q1 q2 x0 x1 x2 a1 a2 v0 v1 v2
                  skip
                  have r0 := cell_of_row _ _ 0 _ _ _ h5.st.br
                  have r1 := cell_of_row _ _ 1 _ _ _ h5.st.br
                  have q0 := cell_of_row _ _ 0 _ _ _ h5.st.bu
                  have q1 := cell_of_row _ _ 1 _ _ _ h5.st.bu
                  have q2 := cell_of_row _ _ 2 _ _ _ h5.st.bu
                  have x0 := cell_of_row _ _ 0 _ _ _ h5.st.bx
                  have x1 := cell_of_row _ _ 1 _ _ _ h5.st.bx
                  have x2 := cell_of_row _ _ 2 _ _ _ h5.st.bx
                  have a1 := cell_of_row _ _ 1 _ _ _ h5.ba
                  have a2 := cell_of_row _ _ 2 _ _ _ h5.ba
                  have v0 := cell_of_row _ _ 0 _ _ _ h5.bB
                  have v1 := cell_of_row _ _ 1 _ _ _ h5.bB
                  have v2 := cell_of_row _ _ 2 _ _ _ h5.bB
                  have HB := Lib.hid h5
                  clear h5
                  go_wp2_with (refine wpList_store_row rfl 111 _ _ rfl _ _ rfl rfl _ _ g5 (by exact size_ru) (by rfl) (by simp [Value.oneCell']) ?_; (try go_simp))
                  go_at_call 57
                  refine (Right_yes 2 0 0 n0_0 n0_1 _ HR2.out p1 t1).mono ?_
                  rintro e w3 ⟨rfl, hb⟩
                  clear g5
                  have h5 := HB.out.step hb (Nat.le_refl _)
                  clear HB hb
                  clear r0 r1 q0 q1 q2 x0 x1 x2 a1 a2 v0 v1 v2
                  skip
                  have r0 := cell_of_row _ _ 0 _ _ _ h5.st.br
                  have r1 := cell_of_row _ _ 1 _ _ _ h5.st.br
                  have q0 := cell_of_row _ _ 0 _ _ _ h5.st.bu
                  have q1 := cell_of_row _ _ 1 _ _ _ h5.st.bu
                  have q2 := cell_of_row _ _ 2 _ _ _ h5.st.bu
                  have x0 := cell_of_row _ _ 0 _ _ _ h5.st.bx
                  have x1 := cell_of_row _ _ 1 _ _ _ h5.st.bx
                  have x2 := cell_of_row _ _ 2 _ _ _ h5.st.bx
                  have a1 := cell_of_row _ _ 1 _ _ _ h5.ba
                  have a2 := cell_of_row _ _ 2 _ _ _ h5.ba
                  have v0 := cell_of_row _ _ 0 _ _ _ h5.bB
                  have v1 := cell_of_row _ _ 1 _ _ _ h5.bB
                  have v2 := cell_of_row _ _ 2 _ _ _ h5.bB
                  have HB := Lib.hid h5
                  clear h5
                  go_wp2_with fail
                  go_at_call 58
                  refine (Works_at 2 0 0 _).mono ?_
                  rintro e w4 ⟨rfl, hb⟩
                  have h5 := HB.out.step hb (Nat.le_refl _)
                  clear HB hb
                  clear r0 r1 q0 q1 q2 x0 x1 x2 a1 a2 v0 v1 v2
                  skip
                  have r0 := cell_of_row _ _ 0 _ _ _ h5.st.br
                  have r1 := cell_of_row _ _ 1 _ _ _ h5.st.br
                  have q0 := cell_of_row _ _ 0 _ _ _ h5.st.bu
                  have q1 := cell_of_row _ _ 1 _ _ _ h5.st.bu
                  have q2 := cell_of_row _ _ 2 _ _ _ h5.st.bu
                  have x0 := cell_of_row _ _ 0 _ _ _ h5.st.bx
                  have x1 := cell_of_row _ _ 1 _ _ _ h5.st.bx
                  have x2 := cell_of_row _ _ 2 _ _ _ h5.st.bx
                  have a1 := cell_of_row _ _ 1 _ _ _ h5.ba
                  have a2 := cell_of_row _ _ 2 _ _ _ h5.ba
                  have v0 := cell_of_row _ _ 0 _ _ _ h5.bB
                  have v1 := cell_of_row _ _ 1 _ _ _ h5.bB
                  have v2 := cell_of_row _ _ 2 _ _ _ h5.bB
                  have HB := Lib.hid h5
                  clear h5
                  go_wp2_with fail
                  go_at_call 58
                  refine (Works_at 2 0 b _).mono ?_
                  rintro e w5 ⟨rfl, hb⟩
                  have h5 := HB.out.step hb (Nat.le_refl _)
                  clear HB hb
                  clear r0 r1 q0 q1 q2 x0 x1 x2 a1 a2 v0 v1 v2
                  skip
                  have r0 := cell_of_row _ _ 0 _ _ _ h5.st.br
                  have r1 := cell_of_row _ _ 1 _ _ _ h5.st.br
                  have q0 := cell_of_row _ _ 0 _ _ _ h5.st.bu
                  have q1 := cell_of_row _ _ 1 _ _ _ h5.st.bu
                  have q2 := cell_of_row _ _ 2 _ _ _ h5.st.bu
                  have x0 := cell_of_row _ _ 0 _ _ _ h5.st.bx
                  have x1 := cell_of_row _ _ 1 _ _ _ h5.st.bx
                  have x2 := cell_of_row _ _ 2 _ _ _ h5.st.bx
                  have a1 := cell_of_row _ _ 1 _ _ _ h5.ba
                  have a2 := cell_of_row _ _ 2 _ _ _ h5.ba
                  have v0 := cell_of_row _ _ 0 _ _ _ h5.bB
                  have v1 := cell_of_row _ _ 1 _ _ _ h5.bB
                  have v2 := cell_of_row _ _ 2 _ _ _ h5.bB
                  have HB := Lib.hid h5
                  clear h5
                  go_wp2
                  go_roundw
                  case rel => exact ⟨k + 1, 2, 0, 0, since, 0, true, by omega, by omega, by go_num, rfl, rfl, rfl, HB.out.st, ⟨HR2.out, (fun h => absurd h (by decide)), fun _ => ⟨rfl, rfl⟩⟩⟩
                  case measure => simp [intOf]; omega
          · as_aux_lemma =>
              obtain rfl := hl (by decide)
              obtain rfl := hb (by decide)
              clear hl hb hC1 hC2
              have HR2 := Lib.hid (show Un.Right ⟨3, 0, 0⟩ n0_0 n0_1 from HR2.out ak we)
              go_wp2_with fail
              go_at_call 55
              refine (Step_det 3 0 0 ak we n0_0 n0_1 3 0 0 0 _ (by omega) (by omega) (by omega) (by omega) t1 (by first | rfl | exact HU.out.1) (by first | rfl | exact HU.out.2)).mono ?_
              rintro e w1 ⟨rfl, hb⟩
              have h4 := HB.out.step hb (Nat.le_refl _)
              have g4 := h4.st.bu
              have h5 := h4.putU 3 0 0
              clear HB hb h4 r0 r1 q0 q1 q2 x0 x1 x2 a1 a2 v0 v1 v2
              skip
              have r0 := cell_of_row _ _ 0 _ _ _ h5.st.br
              have r1 := cell_of_row _ _ 1 _ _ _ h5.st.br
              have q0 := cell_of_row _ _ 0 _ _ _ h5.st.bu
              have q1 := cell_of_row _ _ 1 _ _ _ h5.st.bu
              have q2 := cell_of_row _ _ 2 _ _ _ h5.st.bu
              have x0 := cell_of_row _ _ 0 _ _ _ h5.st.bx
              have x1 := cell_of_row _ _ 1 _ _ _ h5.st.bx
              have x2 := cell_of_row _ _ 2 _ _ _ h5.st.bx
              have a1 := cell_of_row _ _ 1 _ _ _ h5.ba
              have a2 := cell_of_row _ _ 2 _ _ _ h5.ba
              have v0 := cell_of_row _ _ 0 _ _ _ h5.bB
              have v1 := cell_of_row _ _ 1 _ _ _ h5.bB
              have v2 := cell_of_row _ _ 2 _ _ _ h5.bB
              have HB := Lib.hid h5
              clear h5
              go_wp2_with (refine wpList_store_row rfl 110 _ _ rfl _ _ rfl rfl _ _ g4 (by exact size_un) (by rfl) (by simp [Value.oneCell']) ?_; (try go_simp))
              go_at_call 56
              refine (rStep_det 3 0 0 ak we n0_0 n0_1 3 0 0 0 _ HR.out p1 t1 (by first | rfl | exact HU.out.1) (by first | rfl | exact HU.out.2)).mono ?_
              rintro e w2 ⟨rfl, hb⟩
              have h4 := HB.out.step hb (Nat.le_refl _)
              have g5 := h4.st.bx
              have h5 := h4.putX 3 0 0
              clear HB hb h4 g4 r0 r1 q0 q1 q2 x0 x1 x2 a1 a2 v0 v1 v2
              skip
              have r0 := cell_of_row _ _ 0 _ _ _ h5.st.br
              have r1 := cell_of_row _ _ 1 _ _ _ h5.st.br
              have q0 := cell_of_row _ _ 0 _ _ _ h5.st.bu
              have q1 := cell_of_row _ _ 1 _ _ _ h5.st.bu
              have q2 := cell_of_row _ _ 2 _ _ _ h5.st.bu
              have x0 := cell_of_row _ _ 0 _ _ _ h5.st.bx
              have x1 := cell_of_row _ _ 1 _ _ _ h5.st.bx
              have x2 := cell_of_row _ _ 2 _ _ _ h5.st.bx
              have a1 := cell_of_row _ _ 1 _ _ _ h5.ba
              have a2 := cell_of_row _ _ 2 _ _ _ h5.ba
              have v0 := cell_of_row _ _ 0 _ _ _ h5.bB
              have v1 := cell_of_row _ _ 1 _ _ _ h5.bB
              have v2 := cell_of_row _ _ 2 _ _ _ h5.bB
              have HB := Lib.hid h5
              clear h5
              go_wp2_with (refine wpList_store_row rfl 111 _ _ rfl _ _ rfl rfl _ _ g5 (by exact size_ru) (by rfl) (by simp [Value.oneCell']) ?_; (try go_simp))
              go_at_call 57
              refine (Right_yes 3 0 0 n0_0 n0_1 _ HR2.out p1 t1).mono ?_
              rintro e w3 ⟨rfl, hb⟩
              clear g5
              have h5 := HB.out.step hb (Nat.le_refl _)
              clear HB hb
              clear r0 r1 q0 q1 q2 x0 x1 x2 a1 a2 v0 v1 v2
              skip
              have r0 := cell_of_row _ _ 0 _ _ _ h5.st.br
              have r1 := cell_of_row _ _ 1 _ _ _ h5.st.br
              have q0 := cell_of_row _ _ 0 _ _ _ h5.st.bu
              have q1 := cell_of_row _ _ 1 _ _ _ h5.st.bu
              have q2 := cell_of_row _ _ 2 _ _ _ h5.st.bu
              have x0 := cell_of_row _ _ 0 _ _ _ h5.st.bx
              have x1 := cell_of_row _ _ 1 _ _ _ h5.st.bx
              have x2 := cell_of_row _ _ 2 _ _ _ h5.st.bx
              have a1 := cell_of_row _ _ 1 _ _ _ h5.ba
              have a2 := cell_of_row _ _ 2 _ _ _ h5.ba
              have v0 := cell_of_row _ _ 0 _ _ _ h5.bB
              have v1 := cell_of_row _ _ 1 _ _ _ h5.bB
              have v2 := cell_of_row _ _ 2 _ _ _ h5.bB
              have HB := Lib.hid h5
              clear h5
              go_wp2_with fail
              go_at_call 58
              refine (Works_at 3 0 0 _).mono ?_
              rintro e w4 ⟨rfl, hb⟩
              have h5 := HB.out.step hb (Nat.le_refl _)
              clear HB hb
              clear r0 r1 q0 q1 q2 x0 x1 x2 a1 a2 v0 v1 v2
              skip
              have r0 := cell_of_row _ _ 0 _ _ _ h5.st.br
              have r1 := cell_of_row _ _ 1 _ _ _ h5.st.br
              have q0 := cell_of_row _ _ 0 _ _ _ h5.st.bu
              have q1 := cell_of_row _ _ 1 _ _ _ h5.st.bu
              have q2 := cell_of_row _ _ 2 _ _ _ h5.st.bu
              have x0 := cell_of_row _ _ 0 _ _ _ h5.st.bx
              have x1 := cell_of_row _ _ 1 _ _ _ h5.st.bx
              have x2 := cell_of_row _ _ 2 _ _ _ h5.st.bx
              have a1 := cell_of_row _ _ 1 _ _ _ h5.ba
              have a2 := cell_of_row _ _ 2 _ _ _ h5.ba
              have v0 := cell_of_row _ _ 0 _ _ _ h5.bB
              have v1 := cell_of_row _ _ 1 _ _ _ h5.bB
              have v2 := cell_of_row _ _ 2 _ _ _ h5.bB
              have HB := Lib.hid h5
              clear h5
              go_wp2_with fail
              go_at_call 58
              refine (Works_at 3 0 0 _).mono ?_
              rintro e w5 ⟨rfl, hb⟩
              have h5 := HB.out.step hb (Nat.le_refl _)
              clear HB hb
              clear r0 r1 q0 q1 q2 x0 x1 x2 a1 a2 v0 v1 v2
              skip
              have r0 := cell_of_row _ _ 0 _ _ _ h5.st.br
              have r1 := cell_of_row _ _ 1 _ _ _ h5.st.br
              have q0 := cell_of_row _ _ 0 _ _ _ h5.st.bu
              have q1 := cell_of_row _ _ 1 _ _ _ h5.st.bu
              have q2 := cell_of_row _ _ 2 _ _ _ h5.st.bu
              have x0 := cell_of_row _ _ 0 _ _ _ h5.st.bx
              have x1 := cell_of_row _ _ 1 _ _ _ h5.st.bx
              have x2 := cell_of_row _ _ 2 _ _ _ h5.st.bx
              have a1 := cell_of_row _ _ 1 _ _ _ h5.ba
              have a2 := cell_of_row _ _ 2 _ _ _ h5.ba
              have v0 := cell_of_row _ _ 0 _ _ _ h5.bB
              have v1 := cell_of_row _ _ 1 _ _ _ h5.bB
              have v2 := cell_of_row _ _ 2 _ _ _ h5.bB
              have HB := Lib.hid h5
              clear h5
              go_wp2
              go_roundw
              case rel => exact ⟨k + 1, 3, 0, 0, since, bad, ord, by omega, by omega, by go_num, rfl, rfl, rfl, HB.out.st, ⟨HR.out, (fun h => absurd h (by decide)), (fun h => absurd h (by decide))⟩⟩
              case measure => simp [intOf]; omega
      · obtain ⟨bb, off, rfl, hbb, hel⟩ := CX.out (by omega)
        obtain ⟨cs, hfit, hcell⟩ := hel k hlt
        match cs, hfit with
        | [v0, v1, v2], ⟨⟨z, hv0, hz⟩, ⟨ak, hv1⟩, ⟨we, hv2⟩, _⟩ =>
        subst hv0 hv1 hv2
        have c0 := (hS.be.cell (p := ⟨bb, off + k * 3, none⟩) hbb).trans (hcell 0 _ rfl)
        have c1 := (hS.be.cell (p := ⟨bb, off + k * 3 + 1, none⟩) hbb).trans (hcell 1 _ rfl)
        have c2 := (hS.be.cell (p := ⟨bb, off + k * 3 + 2, none⟩) hbb).trans (hcell 2 _ rfl)
        have HB := Lib.hid (hS.be.alloc hS.be.size (.cells #[.int .u8 z, .bool ak, .bool we] 113))
        clear hfit hcell hel hz hS hC
        go_wp2
        go_ret
        exact ⟨rfl, HB.out⟩
    · have HB := Lib.hid hS.be
      clear hS hC
      go_wp2
      go_ret
      exact ⟨rfl, HB.out⟩
end Go.Proofs.Ytkcpeefnlmmilaa
