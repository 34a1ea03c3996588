/- GuardHolds: the walk. -/
import Derived.Test.YtdlkonbjmmepoaaLaw07i
namespace Go.Proofs.Ytdlkonbjmmepoaa
open Go.RowKit Go.Own
set_option linter.unusedVariables false
set_option linter.unusedSimpArgs false

set_option maxRecDepth 100000 in
set_option maxHeartbeats 64000000 in
theorem walk_GuardHolds (a0 : Option Addr) (len0 cap0 : Nat) (z0 : List Int) (a1 : Option Addr) (len1 cap1 : Nat) (a2 : Option Addr) (len2 cap2 : Nat) (z2 : List Int) (a3 : Option Addr) (len3 cap3 : Nat) (z3 : List Int) (w : World) (w0 : IsRow .u8 w a0 len0 cap0 z0) (w1 : IsRows w a1 len1 cap1) (w2 : IsRow .u8 w a2 len2 cap2 z2) (w3 : IsRow .u16 w a3 len3 cap3 z3) :
    Calls Try.prog 3 #[.slice a0 len0 cap0, .slice a1 len1 cap1, .slice a2 len2 cap2, .slice a3 len3 cap3] w fun e w' => e = .returned (.bool true) ∧ Below w.heap.size w w' := by
  obtain ⟨l0, hl0, hb0, hr0⟩ := isRow_rd w0
  obtain ⟨rp, rc, rl, hrow, hrows⟩ := w1
  obtain ⟨l2, hl2, hb2, hr2⟩ := isRow_rd w2
  obtain ⟨ns, hns, hr3⟩ := isRow_u16 w3
  have hle1 := hrow.le
  have htop1 := hrow.top
  have hle2 := hr2.le
  have htop2 := hr2.top
  have hle3 := hr3.le
  have htop3 := hr3.top
  unfold maxLen at htop1 htop2 htop3
  obtain ⟨m, hm⟩ : ∃ m, m = min 100 len0 := ⟨_, rfl⟩
  have hm100 : m ≤ 100 := by omega
  obtain ⟨L, hL⟩ : ∃ L, L = l0.take 100 := ⟨_, rfl⟩
  have hLm : L.length = m := by rw [hL, List.length_take, hl0, hm]
  have hLb : bytes L := by rw [hL]; exact hb0.take _
  have hcut := fun (wr : World) (hB : Below w.heap.size w wr) => Cut_any a0 len0 cap0 l0 100 wr hl0 ((hr0.below hB).mono hB.size) (by omega)
  rw [← hL, ← hm] at hcut
  have HCUT := Lib.hid hcut
  have HROW := Lib.hid hrow
  have HROWS := Lib.hid hrows
  have HR2 := Lib.hid hr2
  have HL2 := Lib.hid hl2
  have HB2 := Lib.hid hb2
  have HR3 := Lib.hid hr3
  have HNS := Lib.hid hns
  have HLM := Lib.hid hLm
  have HLB := Lib.hid hLb
  clear w0 w2 w3 hrow hrows hr2 hl2 hb2 hr3 hns hl0 hb0 hr0 hL hm hLm hLb hcut
  go_enter Try.func3, Try.ntmps3
  go_wp2_with fail
  go_at_call 15
  refine (awake07 w).mono ?_
  rintro e w1 ⟨rfl, hb1⟩
  have B1 := Lib.hid hb1
  clear hb1
  go_wp2_with fail
  go_at_call 16
  refine (mNew w1).mono ?_
  rintro e w3 ⟨rfl, hm3, hb3⟩
  obtain ⟨g, hg⟩ : ∃ g, g = w1.heap.size := ⟨_, rfl⟩
  rw [← hg] at hm3 ⊢
  have HG : w.heap.size ≤ g := by rw [hg]; exact B1.out.size
  have hgl := hm3.lt
  have B3 := Lib.hid (B1.out.trans (hb3.mono B1.out.size))
  have M3 := Lib.hid hm3
  clear hb3 hm3 hg B1
  go_wp2_with fail
  go_at_call 17
  have hal : Below w3.heap.size w3 (w3.alloc (.cells #[.pointer (some ⟨g, 0, none⟩)] 26)) := (Below.refl _ _).alloc (Nat.le_refl _) _
  have hB4 := B3.out.trans (hal.mono B3.out.size)
  have hbox := heap_alloc_new w3 (.cells #[.pointer (some ⟨g, 0, none⟩)] 26)
  obtain ⟨bm, hbm⟩ : ∃ bm, bm = w3.heap.size := ⟨_, rfl⟩
  have hnm : bm ≠ g := by omega
  obtain ⟨w4, hw4⟩ : ∃ w4, w4 = w3.alloc (.cells #[.pointer (some ⟨g, 0, none⟩)] 26) := ⟨_, rfl⟩
  rw [← hw4] at hal hB4 hbox ⊢
  rw [← hbm] at hbox ⊢
  have M4 := M3.out.below hal
  refine (HCUT.out w4 hB4).mono ?_
  rintro e w5 ⟨xv, rfl, hown, hb5⟩
  obtain ⟨la, lc, rfl⟩ := own_form hown
  have B5 := Lib.hid (hB4.trans (hb5.mono hB4.size))
  have M5 := Lib.hid (M4.below hb5)
  have P5 := Lib.hid (World.ownsRow.mono hown hB4.size)
  have O5 := Lib.hid (M4.off hown)
  have X5 := Lib.hid (box_below hbox hb5 (box_lt hbox))
  clear hown hb5 M4 hbox hw4 hbm hal hB4 B3 M3 HCUT hgl
  have c5 := box_cell X5.out
  have hF := mFill la lc w5.heap.size L M5.out (Nat.le_refl _) (by rw [HLM.out]; exact rd_of_own P5.out (fun i hi => bl_at L (by rw [HLM.out]; exact hi))) HLB.out
  rw [HLM.out] at hF
  have HF := Lib.hid hF
  clear hF
  go_wp2_with fail
  go_at_call 18
  refine HF.out.mono ?_
  rintro e w6 (⟨h, _⟩ | ⟨_, h, _⟩ | ⟨_, _, rfl, v6, hm6, hs6⟩)
  · omega
  · rw [gtop_no] at h; exact absurd h (by decide)
  rw [gtop_no] at hm6
  have hfine : Fine (mkCell (0 + 1) L) := Fine.of _ HLB.out (by rw [HLM.out]; omega)
  have hseq : pseq (mkCell (0 + 1) L) = 1 := mkCell_seq _ _ (by omega)
  have hdat : pdat (mkCell (0 + 1) L) = L := mkCell_dat _ _
  have B6 := Lib.hid (B5.out.trans ((hs6.below M5.out).mono HG))
  have M6 := Lib.hid hm6
  have P6 := Lib.hid (hs6.row P5.out O5.out).1
  have O6 := Lib.hid (hs6.row P5.out O5.out).2
  have X6 := Lib.hid (box_step hs6 M5.out X5.out hnm (by decide))
  have HFI := Lib.hid hfine
  have HSQ := Lib.hid hseq
  have HDT := Lib.hid hdat
  clear hm6 hs6 hfine hseq hdat HF B5 M5 P5 O5 X5 c5
  go_wp2
  go_loopw [10, 32] (fun t i wr => ∃ (k n : Nat) (v : Nat → Value) (c : List Nat) (a : Option Addr) (m ca : Nat) (L : List Nat), k ≤ len1 ∧ k ≤ 12 ∧ n ≤ k + 1 ∧ i = .int .i64 (k : Nat) ∧ t = .slice a m ca ∧ Below w.heap.size w wr ∧ MemS wr g g v (sel4 c c c []) ∧ Fine c ∧ pseq c = n ∧ pdat c = L ∧ L.length = m ∧ m ≤ 100 ∧ bytes L ∧ wr.ownsRow w.heap.size 5 1 (.slice a m ca) m (bl L) ∧ Off g v (.slice a m ca) ∧ wr.heap[bm]? = some (.cells #[.pointer (some ⟨g, 0, none⟩)] 26 (0, 0))) (fun _ i _ => len1 - (intOf i).toNat)
  case atStart => exact ⟨0, 1, v6, _, la, m, lc, L, Nat.zero_le _, Nat.zero_le _, Nat.le_refl _, rfl, rfl, B6.out, M6.out, HFI.out, HSQ.out, HDT.out, HLM.out, hm100, HLB.out, P6.out, O6.out, X6.out⟩
  case round =>
    clear B6 M6 P6 O6 X6 HFI HSQ HDT HLM HLB hm100
    obtain ⟨k, n, v, c, a, m, ca, L, hk, hk12, hnk, rfl, rfl, hB, hM, hfi, hsq, hdt, hLm, hm100, hLb, hlr, hlo, hx⟩ := hrel
    have BB := Lib.hid hB
    have MM := Lib.hid hM
    have FI := Lib.hid hfi
    have SQ := Lib.hid hsq
    have DT := Lib.hid hdt
    have LM := Lib.hid hLm
    have LB := Lib.hid hLb
    have LR := Lib.hid hlr
    have LO := Lib.hid hlo
    have XX := Lib.hid hx
    have cx := box_cell hx
    clear hM hfi hsq hdt hLm hLb hlr hlo hx
    by_cases hlt : k < len1
    · by_cases h12 : k < 12
      · obtain ⟨b, off, rfl, hbk, hc⟩ := (HROW.out.below' hB (Nat.le_refl _)).at hlt
        obtain ⟨hbl, hrd⟩ := HROWS.out k hlt
        have h12' : ¬ ((12 : Int) ≤ (k : Int)) := by omega
        obtain ⟨p, hp⟩ : ∃ p, p = rp k := ⟨_, rfl⟩
        obtain ⟨pc, hpc⟩ : ∃ pc, pc = rc k := ⟨_, rfl⟩
        obtain ⟨l, hl⟩ : ∃ l, l = rl k := ⟨_, rfl⟩
        rw [← hp, ← hpc, ← hl] at hrd
        rw [← hp, ← hpc, ← hl] at hc
        rw [← hl] at hbl
        obtain ⟨len, hlen⟩ : ∃ len, len = l.length := ⟨_, rfl⟩
        rw [← hlen] at hrd hc
        obtain ⟨P, hP⟩ : ∃ P, P = l.take 100 := ⟨_, rfl⟩
        obtain ⟨q, hq⟩ : ∃ q, q = min 100 len := ⟨_, rfl⟩
        have hq100 : q ≤ 100 := by omega
        have hPq : P.length = q := by rw [hP, List.length_take, hq, hlen]
        have hPb : bytes P := by rw [hP]; exact hbl.take _
        have hcut := Cut_any p len pc l 100 wr hlen.symm ((hrd.below' hB (Nat.le_refl _)).mono hB.size) (by omega)
        rw [← hP, ← hq] at hcut
        have HCUT := Lib.hid hcut
        have PQ := Lib.hid hPq
        have PB := Lib.hid hPb
        clear hB hbl hrd hlen hP hq hPq hPb hcut hp hpc hl
        go_wp2_with fail
        go_at_call 17
        refine HCUT.out.mono ?_
        rintro e w5 ⟨xv, rfl, hown, hb5⟩
        obtain ⟨pa, pk, rfl⟩ := own_form hown
        have B5 := Lib.hid (BB.out.trans (hb5.mono BB.out.size))
        have M5 := Lib.hid (MM.out.below hb5)
        have P5 := Lib.hid (World.ownsRow.mono hown BB.out.size)
        have O5 := Lib.hid (MM.out.off hown)
        have R5 := Lib.hid (own_keep LR.out hb5)
        have X5 := Lib.hid (box_below XX.out hb5 (box_lt XX.out))
        have hgw := (MM.out.below hb5).lt
        clear hown hb5 HCUT BB MM LR XX hc cx
        have St0 := fun (at_ : Nat) => Lib.hid (show ∀ ba, ba = w5.heap.size → St w (w5.alloc (.cells #[.int .u16 (at_ : Nat)] 31)) g ba bm at_ v (sel4 c c c []) a pa m q ca pk L P from by
          rintro ba rfl
          have hal : Below w5.heap.size w5 (w5.alloc (.cells #[.int .u16 (at_ : Nat)] 31)) := (Below.refl _ _).alloc (Nat.le_refl _) _
          exact ⟨B5.out.trans (hal.mono B5.out.size), M5.out.below hal, heap_alloc_new _ _, box_below X5.out hal (box_lt X5.out), own_keep R5.out hal, LO.out, own_keep P5.out hal, O5.out, HG, by omega, hnm⟩)
        by_cases hk2 : k < len2
        · obtain ⟨b2, off2, rfl, hbk2, hc2⟩ := (HR2.out.below' B5.out (Nat.le_refl _)).at hk2
          unfold bv at hc2
          have hx2 := HB2.out.at k
          obtain ⟨x2, hx2'⟩ : ∃ x, x = l2.getD k 0 := ⟨_, rfl⟩
          rw [← hx2'] at hc2 hx2
          obtain ⟨how, hhow⟩ : ∃ how, how = x2 % 4 := ⟨_, rfl⟩
          have hhI : (x2 : Int) % 4 = (how : Int) := by omega
          have hh4 : how = 0 ∨ how = 1 ∨ how = 2 ∨ how = 3 := by omega
          clear hx2' hhow
          by_cases hk3 : k < len3
          · obtain ⟨b3, off3, rfl, hbk3, hc3⟩ := (HR3.out.below' B5.out (Nat.le_refl _)).at hk3
            have hx3 := HNS.out k
            obtain ⟨at_, hat⟩ : ∃ x, x = ns k := ⟨_, rfl⟩
            rw [← hat] at hc3 hx3
            clear hat
            have hc3' : (w5.alloc (.cells #[.int .u16 0] 31)).cell? ⟨b3, off3 + k, none⟩ = some (.int .u16 (at_ : Nat)) := by
              rw [(Below.refl w5.heap.size w5).alloc (Nat.le_refl _) _ |>.cell (p := ⟨b3, off3 + k, none⟩) (box_lt_of hc3)]
              exact hc3
            have hbb3 : b3 < w5.heap.size := box_lt_of hc3
            rcases hh4 with rfl | rfl | rfl | rfl
            · have hhI' : (x2 : Int) % 4 = 0 := hhI
              go_wp2_with fail
              skip
              obtain ⟨ba, hba⟩ : ∃ ba, ba = w5.heap.size := ⟨_, rfl⟩
              have s6 := (St0 at_).out ba hba
              obtain ⟨w6, hw6⟩ : ∃ w6, w6 = w5.alloc (.cells #[.int .u16 (at_ : Nat)] 31) := ⟨_, rfl⟩
              have s6 : St w w6 g ba bm at_ v (sel4 c c c []) a pa m q ca pk L P := by rw [hw6]; exact s6
              rw [← hba, ← hw6]
              have S6 := Lib.hid s6
              have AT := Lib.hid (show at_ < 65536 by omega)
              have h8 : ∀ i, i < 3 → 8 ≤ (sel4 c c c [] i).length := fun i hi => by rw [sel_at c hi]; exact FI.out.len
              clear s6 hba hw6 St0 B5 M5 P5 O5 R5 X5 hgw LO
              refine (S6.out.hit (when := 1) h8 AT.out (by omega)).mono ?_
              rintro e w7 ⟨⟨u, rfl⟩, s7⟩
              have S7 := Lib.hid (show St w w7 g ba bm at_ v (A1 c at_) a pa m q ca pk L P from s7)
              clear s7 S6 h8
              have hBG := mBegin pa pk w7.heap.size P S7.out.M (Nat.le_refl _) (S7.out.rdP PQ.out) PB.out
              rw [PQ.out, A1_top at_ FI.out, SQ.out] at hBG
              have HBG := Lib.hid hBG
              clear hBG
              have FD := Lib.hid (Fine.of (n + 1) PB.out (by rw [PQ.out]; omega))
              have DS := Lib.hid (mkCell_seq (n + 1) P (by omega))
              have DD := Lib.hid (mkCell_dat (n + 1) P)
              have mx := box_cell S7.out.xm
              go_wp2_with fail
              go_at_call 21
              refine HBG.out.mono ?_
              rintro e w8 (⟨h, _⟩ | ⟨_, h, _⟩ | ⟨_, _, h, _⟩ | ⟨_, _, _, rfl, v8, hm8, hs8⟩)
              · omega
              · exact absurd (A1_3 c at_) h
              · omega
              obtain ⟨d, hd⟩ : ∃ d, d = mkCell (n + 1) P := ⟨_, rfl⟩
              rw [← hd] at hm8 FD DS DD
              have S8 := Lib.hid (S7.out.step hm8 hs8)
              clear hm8 hs8 HBG hd S7 mx
              go_wp2_with fail
              go_at_call 19
              refine (S8.out.hit (when := 2) (sel_len (c := c) FD.out (A1_len FI.out at_)) AT.out (by omega)).mono ?_
              rintro e w9 ⟨⟨u, rfl⟩, s9⟩
              have S9 := Lib.hid (show St w w9 g ba bm at_ v8 (A2 c d at_) a pa m q ca pk L P from s9)
              clear s9 S8
              have mx := box_cell S9.out.xm
              go_wp2_with fail
              go_at_call 22
              refine (mFinish S9.out.M (by rw [A2_3]; exact FD.out.ne)).mono ?_
              rintro e wa ⟨rfl, va, hma, hsa⟩
              rw [A2_3] at hma
              have Sa := Lib.hid (S9.out.step hma hsa)
              clear hma hsa S9 mx
              go_wp2_with fail
              go_at_call 19
              refine (Sa.out.hit (when := 3) (A4_len FI.out FD.out at_) AT.out (by omega)).mono ?_
              rintro e wz ⟨⟨u, rfl⟩, sz⟩
              have Sz := Lib.hid (show St w wz g ba bm at_ va (A4 c d at_) a pa m q ca pk L P from sz)
              clear sz Sa
              obtain ⟨k1, k2⟩ := A4_good at_ FI.out FD.out
              have mx := box_cell Sz.out.xm
              go_wp2_with fail
              go_at_call 23
              refine (mReset Sz.out.M).mono ?_
              rintro e wb ⟨⟨u, rfl⟩, hmb, hsb⟩
              have Sb := Lib.hid (Sz.out.step hmb hsb)
              clear hmb hsb Sz mx
              have mx := box_cell Sb.out.xm
              go_wp2_with fail
              go_at_call 24
              refine (mRead Sb.out.M).mono ?_
              rintro e wq ⟨hbq, ⟨h, _⟩ | ⟨_, x, xc, rfl, hown⟩⟩
              · omega
              have hx0 := Sb.out.M.off hown
              have hbb : upd (A4 c d at_) 3 [] (vst (upd (A4 c d at_) 3 []) 3).2 = d := k2
              rw [hbb, DD.out, PQ.out] at hown hx0
              rw [hbb, DD.out, PQ.out]
              have Sq := Lib.hid (Sb.out.below hbq)
              have hq := World.ownsRow.mono hown Sb.out.B.size
              have Q := Lib.hid hq
              have QO := Lib.hid hx0
              clear hown hx0 hbq mx hq Sb
              have mx2 : ∀ j, (wq.drewN j).cell? ⟨bm, 0, none⟩ = some (.pointer (some ⟨g, 0, none⟩)) := fun j => box_cell (Sq.out.below (below_drews _ wq j)).xm
              have hsl := same_at PQ.out LM.out Q.out Sq.out.lr PB.out LB.out
              have hsp := same_at PQ.out PQ.out Q.out Sq.out.pr PB.out PB.out
              rw [decide_eq_true (rfl : P = P)] at hsp
              have HSP := Lib.hid hsp
              clear hsp hbb
              by_cases hPL : P = L
              · rw [decide_eq_true hPL] at hsl
                have HSL := Lib.hid hsl
                have hslz := hsl 0
                rw [drew0] at hslz
                have HSLz := Lib.hid hslz
                clear hsl hPL hslz
                go_wp2_with (go_at_call 25; first | (with_reducible refine (HSLz.out).mono ?_; rintro e w' ⟨rfl, j1, rfl⟩) | (with_reducible refine (HSL.out _).mono ?_; rintro e w' ⟨rfl, j1, rfl⟩) | (with_reducible refine (HSP.out _).mono ?_; rintro e w' ⟨rfl, j1, rfl⟩))
                go_at_call 26
                clear HSL HSLz
                (try clear HSP)
                refine (mScrub (Sq.out.below (below_drews _ wq _)).M).mono ?_
                rintro e ws (⟨h, _⟩ | ⟨_, h, _⟩ | ⟨_, _, rfl, vs, hvs, hms, hss⟩)
                · exact absurd (upd_same _ _ _) h
                · omega
                rw [k2] at hms
                have hms := hms.congr (ls' := sel4 d d d []) (fun i hi => by rw [upd_same])
                have Ss := Lib.hid ((Sq.out.below (below_drews _ wq _)).step hms hss)
                have Qs := Lib.hid (hss.row (own_keep Q.out (below_drews _ wq _)) QO.out)
                obtain ⟨dn, hdn⟩ : ∃ dn, dn = dcount (upd (A4 c d at_) 3 []) (best (upd (A4 c d at_) 3 [])) 3 := ⟨_, rfl⟩
                rw [← hdn]
                clear hms hss hvs hdn Sq Q QO k1 k2 mx2
                go_wp2
                go_roundw
                case rel => exact ⟨k + 1, n + 1, vs, d, x, q, xc, P, by omega, by omega, by omega, by go_num, rfl, Ss.out.B, Ss.out.M, FD.out, DS.out, DD.out, PQ.out, hq100, PB.out, Qs.out.1, Qs.out.2, Ss.out.xm⟩
                case measure => simp [intOf]; omega
              · rw [decide_eq_false hPL] at hsl
                have HSL := Lib.hid hsl
                have hslz := hsl 0
                rw [drew0] at hslz
                have HSLz := Lib.hid hslz
                clear hsl hPL hslz
                go_wp2_with (go_at_call 25; first | (with_reducible refine (HSLz.out).mono ?_; rintro e w' ⟨rfl, j1, rfl⟩) | (with_reducible refine (HSL.out _).mono ?_; rintro e w' ⟨rfl, j1, rfl⟩) | (with_reducible refine (HSP.out _).mono ?_; rintro e w' ⟨rfl, j1, rfl⟩))
                go_at_call 26
                clear HSL HSLz
                (try clear HSP)
                refine (mScrub (Sq.out.below (below_drews _ wq _)).M).mono ?_
                rintro e ws (⟨h, _⟩ | ⟨_, h, _⟩ | ⟨_, _, rfl, vs, hvs, hms, hss⟩)
                · exact absurd (upd_same _ _ _) h
                · omega
                rw [k2] at hms
                have hms := hms.congr (ls' := sel4 d d d []) (fun i hi => by rw [upd_same])
                have Ss := Lib.hid ((Sq.out.below (below_drews _ wq _)).step hms hss)
                have Qs := Lib.hid (hss.row (own_keep Q.out (below_drews _ wq _)) QO.out)
                obtain ⟨dn, hdn⟩ : ∃ dn, dn = dcount (upd (A4 c d at_) 3 []) (best (upd (A4 c d at_) 3 [])) 3 := ⟨_, rfl⟩
                rw [← hdn]
                clear hms hss hvs hdn Sq Q QO k1 k2 mx2
                go_wp2
                go_roundw
                case rel => exact ⟨k + 1, n + 1, vs, d, x, q, xc, P, by omega, by omega, by omega, by go_num, rfl, Ss.out.B, Ss.out.M, FD.out, DS.out, DD.out, PQ.out, hq100, PB.out, Qs.out.1, Qs.out.2, Ss.out.xm⟩
                case measure => simp [intOf]; omega
            · have hhI' : (x2 : Int) % 4 = 1 := hhI
              go_wp2_with fail
              skip
              obtain ⟨ba, hba⟩ : ∃ ba, ba = w5.heap.size := ⟨_, rfl⟩
              have s6 := (St0 at_).out ba hba
              obtain ⟨w6, hw6⟩ : ∃ w6, w6 = w5.alloc (.cells #[.int .u16 (at_ : Nat)] 31) := ⟨_, rfl⟩
              have s6 : St w w6 g ba bm at_ v (sel4 c c c []) a pa m q ca pk L P := by rw [hw6]; exact s6
              rw [← hba, ← hw6]
              have S6 := Lib.hid s6
              have AT := Lib.hid (show at_ < 65536 by omega)
              have h8 : ∀ i, i < 3 → 8 ≤ (sel4 c c c [] i).length := fun i hi => by rw [sel_at c hi]; exact FI.out.len
              clear s6 hba hw6 St0 B5 M5 P5 O5 R5 X5 hgw LO
              refine (S6.out.hit (when := 1) h8 AT.out (by omega)).mono ?_
              rintro e w7 ⟨⟨u, rfl⟩, s7⟩
              have S7 := Lib.hid (show St w w7 g ba bm at_ v (A1 c at_) a pa m q ca pk L P from s7)
              clear s7 S6 h8
              have hBG := mBegin pa pk w7.heap.size P S7.out.M (Nat.le_refl _) (S7.out.rdP PQ.out) PB.out
              rw [PQ.out, A1_top at_ FI.out, SQ.out] at hBG
              have HBG := Lib.hid hBG
              clear hBG
              have FD := Lib.hid (Fine.of (n + 1) PB.out (by rw [PQ.out]; omega))
              have DS := Lib.hid (mkCell_seq (n + 1) P (by omega))
              have DD := Lib.hid (mkCell_dat (n + 1) P)
              have mx := box_cell S7.out.xm
              go_wp2_with fail
              go_at_call 21
              refine HBG.out.mono ?_
              rintro e w8 (⟨h, _⟩ | ⟨_, h, _⟩ | ⟨_, _, h, _⟩ | ⟨_, _, _, rfl, v8, hm8, hs8⟩)
              · omega
              · exact absurd (A1_3 c at_) h
              · omega
              obtain ⟨d, hd⟩ : ∃ d, d = mkCell (n + 1) P := ⟨_, rfl⟩
              rw [← hd] at hm8 FD DS DD
              have S8 := Lib.hid (S7.out.step hm8 hs8)
              clear hm8 hs8 HBG hd S7 mx
              go_wp2_with fail
              go_at_call 19
              refine (S8.out.hit (when := 2) (sel_len (c := c) FD.out (A1_len FI.out at_)) AT.out (by omega)).mono ?_
              rintro e w9 ⟨⟨u, rfl⟩, s9⟩
              have S9 := Lib.hid (show St w w9 g ba bm at_ v8 (A2 c d at_) a pa m q ca pk L P from s9)
              clear s9 S8
              go_wp2_with fail
              go_at_call 19
              refine (S9.out.hit (when := 3) (A2_len FI.out FD.out at_) AT.out (by omega)).mono ?_
              rintro e wz ⟨⟨u, rfl⟩, sz⟩
              have Sz := Lib.hid (show St w wz g ba bm at_ v8 (A3 c d at_) a pa m q ca pk L P from sz)
              clear sz S9
              obtain ⟨k1, k2⟩ := A3_good at_ FI.out FD.out
              have K2 := Lib.hid k2
              clear k2
              have mx := box_cell Sz.out.xm
              go_wp2_with fail
              go_at_call 23
              refine (mReset Sz.out.M).mono ?_
              rintro e wb ⟨⟨u, rfl⟩, hmb, hsb⟩
              have Sb := Lib.hid (Sz.out.step hmb hsb)
              clear hmb hsb Sz mx
              have mx := box_cell Sb.out.xm
              go_wp2_with fail
              go_at_call 24
              refine (mRead Sb.out.M).mono ?_
              rintro e wq ⟨hbq, ⟨h, _⟩ | ⟨_, x, xc, rfl, hown⟩⟩
              · omega
              have hx0 := Sb.out.M.off hown
              rcases K2.out with k2 | k2
              · have hbb : upd (A3 c d at_) 3 [] (vst (upd (A3 c d at_) 3 []) 3).2 = c := k2
                rw [hbb, DT.out, LM.out] at hown hx0
                rw [hbb, DT.out, LM.out]
                have Sq := Lib.hid (Sb.out.below hbq)
                have hq := World.ownsRow.mono hown Sb.out.B.size
                have Q := Lib.hid hq
                have QO := Lib.hid hx0
                clear hown hx0 hbq mx hq Sb
                have mx2 : ∀ j, (wq.drewN j).cell? ⟨bm, 0, none⟩ = some (.pointer (some ⟨g, 0, none⟩)) := fun j => box_cell (Sq.out.below (below_drews _ wq j)).xm
                have hsl := same_at LM.out LM.out Q.out Sq.out.lr LB.out LB.out
                rw [decide_eq_true (rfl : L = L)] at hsl
                have HSL := Lib.hid hsl
                have hslz := hsl 0
                rw [drew0] at hslz
                have HSLz := Lib.hid hslz
                have HSP := HSL
                clear hsl hslz hbb
                go_wp2_with (go_at_call 25; first | (with_reducible refine (HSLz.out).mono ?_; rintro e w' ⟨rfl, j1, rfl⟩) | (with_reducible refine (HSL.out _).mono ?_; rintro e w' ⟨rfl, j1, rfl⟩) | (with_reducible refine (HSP.out _).mono ?_; rintro e w' ⟨rfl, j1, rfl⟩))
                go_at_call 26
                clear HSL HSLz
                (try clear HSP)
                refine (mScrub (Sq.out.below (below_drews _ wq _)).M).mono ?_
                rintro e ws (⟨h, _⟩ | ⟨_, h, _⟩ | ⟨_, _, rfl, vs, hvs, hms, hss⟩)
                · exact absurd (upd_same _ _ _) h
                · omega
                rw [k2] at hms
                have hms := hms.congr (ls' := sel4 c c c []) (fun i hi => by rw [upd_same])
                have Ss := Lib.hid ((Sq.out.below (below_drews _ wq _)).step hms hss)
                have Qs := Lib.hid (hss.row (own_keep Q.out (below_drews _ wq _)) QO.out)
                obtain ⟨dn, hdn⟩ : ∃ dn, dn = dcount (upd (A3 c d at_) 3 []) (best (upd (A3 c d at_) 3 [])) 3 := ⟨_, rfl⟩
                rw [← hdn]
                clear hms hss hvs hdn Sq Q QO k1 k2 mx2
                go_wp2
                go_roundw
                case rel => exact ⟨k + 1, n, vs, c, x, m, xc, L, by omega, by omega, by omega, by go_num, rfl, Ss.out.B, Ss.out.M, FI.out, SQ.out, DT.out, LM.out, hm100, LB.out, Qs.out.1, Qs.out.2, Ss.out.xm⟩
                case measure => simp [intOf]; omega
              · have hbb : upd (A3 c d at_) 3 [] (vst (upd (A3 c d at_) 3 []) 3).2 = d := k2
                rw [hbb, DD.out, PQ.out] at hown hx0
                rw [hbb, DD.out, PQ.out]
                have Sq := Lib.hid (Sb.out.below hbq)
                have hq := World.ownsRow.mono hown Sb.out.B.size
                have Q := Lib.hid hq
                have QO := Lib.hid hx0
                clear hown hx0 hbq mx hq Sb
                have mx2 : ∀ j, (wq.drewN j).cell? ⟨bm, 0, none⟩ = some (.pointer (some ⟨g, 0, none⟩)) := fun j => box_cell (Sq.out.below (below_drews _ wq j)).xm
                have hsl := same_at PQ.out LM.out Q.out Sq.out.lr PB.out LB.out
                have hsp := same_at PQ.out PQ.out Q.out Sq.out.pr PB.out PB.out
                rw [decide_eq_true (rfl : P = P)] at hsp
                have HSP := Lib.hid hsp
                clear hsp hbb
                by_cases hPL : P = L
                · rw [decide_eq_true hPL] at hsl
                  have HSL := Lib.hid hsl
                  have hslz := hsl 0
                  rw [drew0] at hslz
                  have HSLz := Lib.hid hslz
                  clear hsl hPL hslz
                  go_wp2_with (go_at_call 25; first | (with_reducible refine (HSLz.out).mono ?_; rintro e w' ⟨rfl, j1, rfl⟩) | (with_reducible refine (HSL.out _).mono ?_; rintro e w' ⟨rfl, j1, rfl⟩) | (with_reducible refine (HSP.out _).mono ?_; rintro e w' ⟨rfl, j1, rfl⟩))
                  go_at_call 26
                  clear HSL HSLz
                  (try clear HSP)
                  refine (mScrub (Sq.out.below (below_drews _ wq _)).M).mono ?_
                  rintro e ws (⟨h, _⟩ | ⟨_, h, _⟩ | ⟨_, _, rfl, vs, hvs, hms, hss⟩)
                  · exact absurd (upd_same _ _ _) h
                  · omega
                  rw [k2] at hms
                  have hms := hms.congr (ls' := sel4 d d d []) (fun i hi => by rw [upd_same])
                  have Ss := Lib.hid ((Sq.out.below (below_drews _ wq _)).step hms hss)
                  have Qs := Lib.hid (hss.row (own_keep Q.out (below_drews _ wq _)) QO.out)
                  obtain ⟨dn, hdn⟩ : ∃ dn, dn = dcount (upd (A3 c d at_) 3 []) (best (upd (A3 c d at_) 3 [])) 3 := ⟨_, rfl⟩
                  rw [← hdn]
                  clear hms hss hvs hdn Sq Q QO k1 k2 mx2
                  go_wp2
                  go_roundw
                  case rel => exact ⟨k + 1, n + 1, vs, d, x, q, xc, P, by omega, by omega, by omega, by go_num, rfl, Ss.out.B, Ss.out.M, FD.out, DS.out, DD.out, PQ.out, hq100, PB.out, Qs.out.1, Qs.out.2, Ss.out.xm⟩
                  case measure => simp [intOf]; omega
                · rw [decide_eq_false hPL] at hsl
                  have HSL := Lib.hid hsl
                  have hslz := hsl 0
                  rw [drew0] at hslz
                  have HSLz := Lib.hid hslz
                  clear hsl hPL hslz
                  go_wp2_with (go_at_call 25; first | (with_reducible refine (HSLz.out).mono ?_; rintro e w' ⟨rfl, j1, rfl⟩) | (with_reducible refine (HSL.out _).mono ?_; rintro e w' ⟨rfl, j1, rfl⟩) | (with_reducible refine (HSP.out _).mono ?_; rintro e w' ⟨rfl, j1, rfl⟩))
                  go_at_call 26
                  clear HSL HSLz
                  (try clear HSP)
                  refine (mScrub (Sq.out.below (below_drews _ wq _)).M).mono ?_
                  rintro e ws (⟨h, _⟩ | ⟨_, h, _⟩ | ⟨_, _, rfl, vs, hvs, hms, hss⟩)
                  · exact absurd (upd_same _ _ _) h
                  · omega
                  rw [k2] at hms
                  have hms := hms.congr (ls' := sel4 d d d []) (fun i hi => by rw [upd_same])
                  have Ss := Lib.hid ((Sq.out.below (below_drews _ wq _)).step hms hss)
                  have Qs := Lib.hid (hss.row (own_keep Q.out (below_drews _ wq _)) QO.out)
                  obtain ⟨dn, hdn⟩ : ∃ dn, dn = dcount (upd (A3 c d at_) 3 []) (best (upd (A3 c d at_) 3 [])) 3 := ⟨_, rfl⟩
                  rw [← hdn]
                  clear hms hss hvs hdn Sq Q QO k1 k2 mx2
                  go_wp2
                  go_roundw
                  case rel => exact ⟨k + 1, n + 1, vs, d, x, q, xc, P, by omega, by omega, by omega, by go_num, rfl, Ss.out.B, Ss.out.M, FD.out, DS.out, DD.out, PQ.out, hq100, PB.out, Qs.out.1, Qs.out.2, Ss.out.xm⟩
                  case measure => simp [intOf]; omega
            · have hhI' : (x2 : Int) % 4 = 2 := hhI
              go_wp2_with fail
              skip
              obtain ⟨ba, hba⟩ : ∃ ba, ba = w5.heap.size := ⟨_, rfl⟩
              have s6 := (St0 at_).out ba hba
              obtain ⟨w6, hw6⟩ : ∃ w6, w6 = w5.alloc (.cells #[.int .u16 (at_ : Nat)] 31) := ⟨_, rfl⟩
              have s6 : St w w6 g ba bm at_ v (sel4 c c c []) a pa m q ca pk L P := by rw [hw6]; exact s6
              rw [← hba, ← hw6]
              have S6 := Lib.hid s6
              have AT := Lib.hid (show at_ < 65536 by omega)
              have h8 : ∀ i, i < 3 → 8 ≤ (sel4 c c c [] i).length := fun i hi => by rw [sel_at c hi]; exact FI.out.len
              clear s6 hba hw6 St0 B5 M5 P5 O5 R5 X5 hgw LO
              refine (S6.out.hit (when := 1) h8 AT.out (by omega)).mono ?_
              rintro e w7 ⟨⟨u, rfl⟩, s7⟩
              have S7 := Lib.hid (show St w w7 g ba bm at_ v (A1 c at_) a pa m q ca pk L P from s7)
              clear s7 S6 h8
              have hBG := mBegin pa pk w7.heap.size P S7.out.M (Nat.le_refl _) (S7.out.rdP PQ.out) PB.out
              rw [PQ.out, A1_top at_ FI.out, SQ.out] at hBG
              have HBG := Lib.hid hBG
              clear hBG
              have FD := Lib.hid (Fine.of (n + 1) PB.out (by rw [PQ.out]; omega))
              have DS := Lib.hid (mkCell_seq (n + 1) P (by omega))
              have DD := Lib.hid (mkCell_dat (n + 1) P)
              have mx := box_cell S7.out.xm
              go_wp2_with fail
              go_at_call 21
              refine HBG.out.mono ?_
              rintro e w8 (⟨h, _⟩ | ⟨_, h, _⟩ | ⟨_, _, h, _⟩ | ⟨_, _, _, rfl, v8, hm8, hs8⟩)
              · omega
              · exact absurd (A1_3 c at_) h
              · omega
              obtain ⟨d, hd⟩ : ∃ d, d = mkCell (n + 1) P := ⟨_, rfl⟩
              rw [← hd] at hm8 FD DS DD
              have S8 := Lib.hid (S7.out.step hm8 hs8)
              clear hm8 hs8 HBG hd S7 mx
              go_wp2_with fail
              go_at_call 19
              refine (S8.out.hit (when := 2) (sel_len (c := c) FD.out (A1_len FI.out at_)) AT.out (by omega)).mono ?_
              rintro e w9 ⟨⟨u, rfl⟩, s9⟩
              have S9 := Lib.hid (show St w w9 g ba bm at_ v8 (A2 c d at_) a pa m q ca pk L P from s9)
              clear s9 S8
              go_wp2_with fail
              go_at_call 19
              refine (S9.out.hit (when := 3) (A2_len FI.out FD.out at_) AT.out (by omega)).mono ?_
              rintro e wz ⟨⟨u, rfl⟩, sz⟩
              have Sz := Lib.hid (show St w wz g ba bm at_ v8 (A3 c d at_) a pa m q ca pk L P from sz)
              clear sz S9
              obtain ⟨k1, k2⟩ := A3_good at_ FI.out FD.out
              have K2 := Lib.hid k2
              clear k2
              have mx := box_cell Sz.out.xm
              go_wp2_with fail
              go_at_call 23
              refine (mReset Sz.out.M).mono ?_
              rintro e wb ⟨⟨u, rfl⟩, hmb, hsb⟩
              have Sb := Lib.hid (Sz.out.step hmb hsb)
              clear hmb hsb Sz mx
              have mx := box_cell Sb.out.xm
              go_wp2_with fail
              go_at_call 24
              refine (mRead Sb.out.M).mono ?_
              rintro e wq ⟨hbq, ⟨h, _⟩ | ⟨_, x, xc, rfl, hown⟩⟩
              · omega
              have hx0 := Sb.out.M.off hown
              rcases K2.out with k2 | k2
              · have hbb : upd (A3 c d at_) 3 [] (vst (upd (A3 c d at_) 3 []) 3).2 = c := k2
                rw [hbb, DT.out, LM.out] at hown hx0
                rw [hbb, DT.out, LM.out]
                have Sq := Lib.hid (Sb.out.below hbq)
                have hq := World.ownsRow.mono hown Sb.out.B.size
                have Q := Lib.hid hq
                have QO := Lib.hid hx0
                clear hown hx0 hbq mx hq Sb
                have mx2 : ∀ j, (wq.drewN j).cell? ⟨bm, 0, none⟩ = some (.pointer (some ⟨g, 0, none⟩)) := fun j => box_cell (Sq.out.below (below_drews _ wq j)).xm
                have hsl := same_at LM.out LM.out Q.out Sq.out.lr LB.out LB.out
                rw [decide_eq_true (rfl : L = L)] at hsl
                have HSL := Lib.hid hsl
                have hslz := hsl 0
                rw [drew0] at hslz
                have HSLz := Lib.hid hslz
                have HSP := HSL
                clear hsl hslz hbb
                go_wp2_with (go_at_call 25; first | (with_reducible refine (HSLz.out).mono ?_; rintro e w' ⟨rfl, j1, rfl⟩) | (with_reducible refine (HSL.out _).mono ?_; rintro e w' ⟨rfl, j1, rfl⟩) | (with_reducible refine (HSP.out _).mono ?_; rintro e w' ⟨rfl, j1, rfl⟩))
                go_at_call 26
                clear HSL HSLz
                (try clear HSP)
                refine (mScrub (Sq.out.below (below_drews _ wq _)).M).mono ?_
                rintro e ws (⟨h, _⟩ | ⟨_, h, _⟩ | ⟨_, _, rfl, vs, hvs, hms, hss⟩)
                · exact absurd (upd_same _ _ _) h
                · omega
                rw [k2] at hms
                have hms := hms.congr (ls' := sel4 c c c []) (fun i hi => by rw [upd_same])
                have Ss := Lib.hid ((Sq.out.below (below_drews _ wq _)).step hms hss)
                have Qs := Lib.hid (hss.row (own_keep Q.out (below_drews _ wq _)) QO.out)
                obtain ⟨dn, hdn⟩ : ∃ dn, dn = dcount (upd (A3 c d at_) 3 []) (best (upd (A3 c d at_) 3 [])) 3 := ⟨_, rfl⟩
                rw [← hdn]
                clear hms hss hvs hdn Sq Q QO k1 k2 mx2
                go_wp2
                go_roundw
                case rel => exact ⟨k + 1, n, vs, c, x, m, xc, L, by omega, by omega, by omega, by go_num, rfl, Ss.out.B, Ss.out.M, FI.out, SQ.out, DT.out, LM.out, hm100, LB.out, Qs.out.1, Qs.out.2, Ss.out.xm⟩
                case measure => simp [intOf]; omega
              · have hbb : upd (A3 c d at_) 3 [] (vst (upd (A3 c d at_) 3 []) 3).2 = d := k2
                rw [hbb, DD.out, PQ.out] at hown hx0
                rw [hbb, DD.out, PQ.out]
                have Sq := Lib.hid (Sb.out.below hbq)
                have hq := World.ownsRow.mono hown Sb.out.B.size
                have Q := Lib.hid hq
                have QO := Lib.hid hx0
                clear hown hx0 hbq mx hq Sb
                have mx2 : ∀ j, (wq.drewN j).cell? ⟨bm, 0, none⟩ = some (.pointer (some ⟨g, 0, none⟩)) := fun j => box_cell (Sq.out.below (below_drews _ wq j)).xm
                have hsl := same_at PQ.out LM.out Q.out Sq.out.lr PB.out LB.out
                have hsp := same_at PQ.out PQ.out Q.out Sq.out.pr PB.out PB.out
                rw [decide_eq_true (rfl : P = P)] at hsp
                have HSP := Lib.hid hsp
                clear hsp hbb
                by_cases hPL : P = L
                · rw [decide_eq_true hPL] at hsl
                  have HSL := Lib.hid hsl
                  have hslz := hsl 0
                  rw [drew0] at hslz
                  have HSLz := Lib.hid hslz
                  clear hsl hPL hslz
                  go_wp2_with (go_at_call 25; first | (with_reducible refine (HSLz.out).mono ?_; rintro e w' ⟨rfl, j1, rfl⟩) | (with_reducible refine (HSL.out _).mono ?_; rintro e w' ⟨rfl, j1, rfl⟩) | (with_reducible refine (HSP.out _).mono ?_; rintro e w' ⟨rfl, j1, rfl⟩))
                  go_at_call 26
                  clear HSL HSLz
                  (try clear HSP)
                  refine (mScrub (Sq.out.below (below_drews _ wq _)).M).mono ?_
                  rintro e ws (⟨h, _⟩ | ⟨_, h, _⟩ | ⟨_, _, rfl, vs, hvs, hms, hss⟩)
                  · exact absurd (upd_same _ _ _) h
                  · omega
                  rw [k2] at hms
                  have hms := hms.congr (ls' := sel4 d d d []) (fun i hi => by rw [upd_same])
                  have Ss := Lib.hid ((Sq.out.below (below_drews _ wq _)).step hms hss)
                  have Qs := Lib.hid (hss.row (own_keep Q.out (below_drews _ wq _)) QO.out)
                  obtain ⟨dn, hdn⟩ : ∃ dn, dn = dcount (upd (A3 c d at_) 3 []) (best (upd (A3 c d at_) 3 [])) 3 := ⟨_, rfl⟩
                  rw [← hdn]
                  clear hms hss hvs hdn Sq Q QO k1 k2 mx2
                  go_wp2
                  go_roundw
                  case rel => exact ⟨k + 1, n + 1, vs, d, x, q, xc, P, by omega, by omega, by omega, by go_num, rfl, Ss.out.B, Ss.out.M, FD.out, DS.out, DD.out, PQ.out, hq100, PB.out, Qs.out.1, Qs.out.2, Ss.out.xm⟩
                  case measure => simp [intOf]; omega
                · rw [decide_eq_false hPL] at hsl
                  have HSL := Lib.hid hsl
                  have hslz := hsl 0
                  rw [drew0] at hslz
                  have HSLz := Lib.hid hslz
                  clear hsl hPL hslz
                  go_wp2_with (go_at_call 25; first | (with_reducible refine (HSLz.out).mono ?_; rintro e w' ⟨rfl, j1, rfl⟩) | (with_reducible refine (HSL.out _).mono ?_; rintro e w' ⟨rfl, j1, rfl⟩) | (with_reducible refine (HSP.out _).mono ?_; rintro e w' ⟨rfl, j1, rfl⟩))
                  go_at_call 26
                  clear HSL HSLz
                  (try clear HSP)
                  refine (mScrub (Sq.out.below (below_drews _ wq _)).M).mono ?_
                  rintro e ws (⟨h, _⟩ | ⟨_, h, _⟩ | ⟨_, _, rfl, vs, hvs, hms, hss⟩)
                  · exact absurd (upd_same _ _ _) h
                  · omega
                  rw [k2] at hms
                  have hms := hms.congr (ls' := sel4 d d d []) (fun i hi => by rw [upd_same])
                  have Ss := Lib.hid ((Sq.out.below (below_drews _ wq _)).step hms hss)
                  have Qs := Lib.hid (hss.row (own_keep Q.out (below_drews _ wq _)) QO.out)
                  obtain ⟨dn, hdn⟩ : ∃ dn, dn = dcount (upd (A3 c d at_) 3 []) (best (upd (A3 c d at_) 3 [])) 3 := ⟨_, rfl⟩
                  rw [← hdn]
                  clear hms hss hvs hdn Sq Q QO k1 k2 mx2
                  go_wp2
                  go_roundw
                  case rel => exact ⟨k + 1, n + 1, vs, d, x, q, xc, P, by omega, by omega, by omega, by go_num, rfl, Ss.out.B, Ss.out.M, FD.out, DS.out, DD.out, PQ.out, hq100, PB.out, Qs.out.1, Qs.out.2, Ss.out.xm⟩
                  case measure => simp [intOf]; omega
            · have hhI' : (x2 : Int) % 4 = 3 := hhI
              go_wp2_with fail
              skip
              obtain ⟨ba, hba⟩ : ∃ ba, ba = w5.heap.size := ⟨_, rfl⟩
              have s6 := (St0 at_).out ba hba
              obtain ⟨w6, hw6⟩ : ∃ w6, w6 = w5.alloc (.cells #[.int .u16 (at_ : Nat)] 31) := ⟨_, rfl⟩
              have s6 : St w w6 g ba bm at_ v (sel4 c c c []) a pa m q ca pk L P := by rw [hw6]; exact s6
              rw [← hba, ← hw6]
              have S6 := Lib.hid s6
              have AT := Lib.hid (show at_ < 65536 by omega)
              have h8 : ∀ i, i < 3 → 8 ≤ (sel4 c c c [] i).length := fun i hi => by rw [sel_at c hi]; exact FI.out.len
              clear s6 hba hw6 St0 B5 M5 P5 O5 R5 X5 hgw LO
              refine (S6.out.hit (when := 1) h8 AT.out (by omega)).mono ?_
              rintro e w7 ⟨⟨u, rfl⟩, s7⟩
              have S7 := Lib.hid (show St w w7 g ba bm at_ v (A1 c at_) a pa m q ca pk L P from s7)
              clear s7 S6 h8
              go_wp2_with fail
              go_at_call 19
              refine (S7.out.hit (when := 2) (A1_len FI.out at_) AT.out (by omega)).mono ?_
              rintro e w8 ⟨⟨u, rfl⟩, s8⟩
              have S8 := Lib.hid s8
              clear s8 S7
              go_wp2_with fail
              go_at_call 19
              refine (S8.out.hit (when := 3) (fun i hi => by rw [hitL_len]; exact A1_len FI.out at_ i hi) AT.out (by omega)).mono ?_
              rintro e wz ⟨⟨u, rfl⟩, sz⟩
              have Sz := Lib.hid (show St w wz g ba bm at_ v (A0 c at_) a pa m q ca pk L P from sz)
              clear sz S8
              obtain ⟨k1, k2⟩ := A0_good at_ FI.out
              have mx := box_cell Sz.out.xm
              go_wp2_with fail
              go_at_call 23
              refine (mReset Sz.out.M).mono ?_
              rintro e wb ⟨⟨u, rfl⟩, hmb, hsb⟩
              have Sb := Lib.hid (Sz.out.step hmb hsb)
              clear hmb hsb Sz mx
              have mx := box_cell Sb.out.xm
              go_wp2_with fail
              go_at_call 24
              refine (mRead Sb.out.M).mono ?_
              rintro e wq ⟨hbq, ⟨h, _⟩ | ⟨_, x, xc, rfl, hown⟩⟩
              · omega
              have hx0 := Sb.out.M.off hown
              have hbb : upd (A0 c at_) 3 [] (vst (upd (A0 c at_) 3 []) 3).2 = c := k2
              rw [hbb, DT.out, LM.out] at hown hx0
              rw [hbb, DT.out, LM.out]
              have Sq := Lib.hid (Sb.out.below hbq)
              have hq := World.ownsRow.mono hown Sb.out.B.size
              have Q := Lib.hid hq
              have QO := Lib.hid hx0
              clear hown hx0 hbq mx hq Sb
              have mx2 : ∀ j, (wq.drewN j).cell? ⟨bm, 0, none⟩ = some (.pointer (some ⟨g, 0, none⟩)) := fun j => box_cell (Sq.out.below (below_drews _ wq j)).xm
              have hsl := same_at LM.out LM.out Q.out Sq.out.lr LB.out LB.out
              rw [decide_eq_true (rfl : L = L)] at hsl
              have HSL := Lib.hid hsl
              have hslz := hsl 0
              rw [drew0] at hslz
              have HSLz := Lib.hid hslz
              have HSP := HSL
              clear hsl hslz hbb
              go_wp2_with (go_at_call 25; first | (with_reducible refine (HSLz.out).mono ?_; rintro e w' ⟨rfl, j1, rfl⟩) | (with_reducible refine (HSL.out _).mono ?_; rintro e w' ⟨rfl, j1, rfl⟩) | (with_reducible refine (HSP.out _).mono ?_; rintro e w' ⟨rfl, j1, rfl⟩))
              go_at_call 26
              clear HSL HSLz
              (try clear HSP)
              refine (mScrub (Sq.out.below (below_drews _ wq _)).M).mono ?_
              rintro e ws (⟨h, _⟩ | ⟨_, h, _⟩ | ⟨_, _, rfl, vs, hvs, hms, hss⟩)
              · exact absurd (upd_same _ _ _) h
              · omega
              rw [k2] at hms
              have hms := hms.congr (ls' := sel4 c c c []) (fun i hi => by rw [upd_same])
              have Ss := Lib.hid ((Sq.out.below (below_drews _ wq _)).step hms hss)
              have Qs := Lib.hid (hss.row (own_keep Q.out (below_drews _ wq _)) QO.out)
              obtain ⟨dn, hdn⟩ : ∃ dn, dn = dcount (upd (A0 c at_) 3 []) (best (upd (A0 c at_) 3 [])) 3 := ⟨_, rfl⟩
              rw [← hdn]
              clear hms hss hvs hdn Sq Q QO k1 k2 mx2
              go_wp2
              go_roundw
              case rel => exact ⟨k + 1, n, vs, c, x, m, xc, L, by omega, by omega, by omega, by go_num, rfl, Ss.out.B, Ss.out.M, FI.out, SQ.out, DT.out, LM.out, hm100, LB.out, Qs.out.1, Qs.out.2, Ss.out.xm⟩
              case measure => simp [intOf]; omega
          · have hk3' : ¬ ((k : Int) < (len3 : Int)) := by omega
            rcases hh4 with rfl | rfl | rfl | rfl
            · have hhI' : (x2 : Int) % 4 = 0 := hhI
              go_wp2_with fail
              skip
              obtain ⟨ba, hba⟩ : ∃ ba, ba = w5.heap.size := ⟨_, rfl⟩
              have s6 := (St0 0).out ba hba
              obtain ⟨w6, hw6⟩ : ∃ w6, w6 = w5.alloc (.cells #[.int .u16 0] 31) := ⟨_, rfl⟩
              have s6 : St w w6 g ba bm 0 v (sel4 c c c []) a pa m q ca pk L P := by rw [hw6]; exact s6
              rw [← hba, ← hw6]
              have S6 := Lib.hid s6
              have AT := Lib.hid (show 0 < 65536 by omega)
              have h8 : ∀ i, i < 3 → 8 ≤ (sel4 c c c [] i).length := fun i hi => by rw [sel_at c hi]; exact FI.out.len
              clear s6 hba hw6 St0 B5 M5 P5 O5 R5 X5 hgw LO
              refine (S6.out.hit (when := 1) h8 AT.out (by omega)).mono ?_
              rintro e w7 ⟨⟨u, rfl⟩, s7⟩
              have S7 := Lib.hid (show St w w7 g ba bm 0 v (A1 c 0) a pa m q ca pk L P from s7)
              clear s7 S6 h8
              have hBG := mBegin pa pk w7.heap.size P S7.out.M (Nat.le_refl _) (S7.out.rdP PQ.out) PB.out
              rw [PQ.out, A1_top 0 FI.out, SQ.out] at hBG
              have HBG := Lib.hid hBG
              clear hBG
              have FD := Lib.hid (Fine.of (n + 1) PB.out (by rw [PQ.out]; omega))
              have DS := Lib.hid (mkCell_seq (n + 1) P (by omega))
              have DD := Lib.hid (mkCell_dat (n + 1) P)
              have mx := box_cell S7.out.xm
              go_wp2_with fail
              go_at_call 21
              refine HBG.out.mono ?_
              rintro e w8 (⟨h, _⟩ | ⟨_, h, _⟩ | ⟨_, _, h, _⟩ | ⟨_, _, _, rfl, v8, hm8, hs8⟩)
              · omega
              · exact absurd (A1_3 c 0) h
              · omega
              obtain ⟨d, hd⟩ : ∃ d, d = mkCell (n + 1) P := ⟨_, rfl⟩
              rw [← hd] at hm8 FD DS DD
              have S8 := Lib.hid (S7.out.step hm8 hs8)
              clear hm8 hs8 HBG hd S7 mx
              go_wp2_with fail
              go_at_call 19
              refine (S8.out.hit (when := 2) (sel_len (c := c) FD.out (A1_len FI.out 0)) AT.out (by omega)).mono ?_
              rintro e w9 ⟨⟨u, rfl⟩, s9⟩
              have S9 := Lib.hid (show St w w9 g ba bm 0 v8 (A2 c d 0) a pa m q ca pk L P from s9)
              clear s9 S8
              have mx := box_cell S9.out.xm
              go_wp2_with fail
              go_at_call 22
              refine (mFinish S9.out.M (by rw [A2_3]; exact FD.out.ne)).mono ?_
              rintro e wa ⟨rfl, va, hma, hsa⟩
              rw [A2_3] at hma
              have Sa := Lib.hid (S9.out.step hma hsa)
              clear hma hsa S9 mx
              go_wp2_with fail
              go_at_call 19
              refine (Sa.out.hit (when := 3) (A4_len FI.out FD.out 0) AT.out (by omega)).mono ?_
              rintro e wz ⟨⟨u, rfl⟩, sz⟩
              have Sz := Lib.hid (show St w wz g ba bm 0 va (A4 c d 0) a pa m q ca pk L P from sz)
              clear sz Sa
              obtain ⟨k1, k2⟩ := A4_good 0 FI.out FD.out
              have mx := box_cell Sz.out.xm
              go_wp2_with fail
              go_at_call 23
              refine (mReset Sz.out.M).mono ?_
              rintro e wb ⟨⟨u, rfl⟩, hmb, hsb⟩
              have Sb := Lib.hid (Sz.out.step hmb hsb)
              clear hmb hsb Sz mx
              have mx := box_cell Sb.out.xm
              go_wp2_with fail
              go_at_call 24
              refine (mRead Sb.out.M).mono ?_
              rintro e wq ⟨hbq, ⟨h, _⟩ | ⟨_, x, xc, rfl, hown⟩⟩
              · omega
              have hx0 := Sb.out.M.off hown
              have hbb : upd (A4 c d 0) 3 [] (vst (upd (A4 c d 0) 3 []) 3).2 = d := k2
              rw [hbb, DD.out, PQ.out] at hown hx0
              rw [hbb, DD.out, PQ.out]
              have Sq := Lib.hid (Sb.out.below hbq)
              have hq := World.ownsRow.mono hown Sb.out.B.size
              have Q := Lib.hid hq
              have QO := Lib.hid hx0
              clear hown hx0 hbq mx hq Sb
              have mx2 : ∀ j, (wq.drewN j).cell? ⟨bm, 0, none⟩ = some (.pointer (some ⟨g, 0, none⟩)) := fun j => box_cell (Sq.out.below (below_drews _ wq j)).xm
              have hsl := same_at PQ.out LM.out Q.out Sq.out.lr PB.out LB.out
              have hsp := same_at PQ.out PQ.out Q.out Sq.out.pr PB.out PB.out
              rw [decide_eq_true (rfl : P = P)] at hsp
              have HSP := Lib.hid hsp
              clear hsp hbb
              by_cases hPL : P = L
              · rw [decide_eq_true hPL] at hsl
                have HSL := Lib.hid hsl
                have hslz := hsl 0
                rw [drew0] at hslz
                have HSLz := Lib.hid hslz
                clear hsl hPL hslz
                go_wp2_with (go_at_call 25; first | (with_reducible refine (HSLz.out).mono ?_; rintro e w' ⟨rfl, j1, rfl⟩) | (with_reducible refine (HSL.out _).mono ?_; rintro e w' ⟨rfl, j1, rfl⟩) | (with_reducible refine (HSP.out _).mono ?_; rintro e w' ⟨rfl, j1, rfl⟩))
                go_at_call 26
                clear HSL HSLz
                (try clear HSP)
                refine (mScrub (Sq.out.below (below_drews _ wq _)).M).mono ?_
                rintro e ws (⟨h, _⟩ | ⟨_, h, _⟩ | ⟨_, _, rfl, vs, hvs, hms, hss⟩)
                · exact absurd (upd_same _ _ _) h
                · omega
                rw [k2] at hms
                have hms := hms.congr (ls' := sel4 d d d []) (fun i hi => by rw [upd_same])
                have Ss := Lib.hid ((Sq.out.below (below_drews _ wq _)).step hms hss)
                have Qs := Lib.hid (hss.row (own_keep Q.out (below_drews _ wq _)) QO.out)
                obtain ⟨dn, hdn⟩ : ∃ dn, dn = dcount (upd (A4 c d 0) 3 []) (best (upd (A4 c d 0) 3 [])) 3 := ⟨_, rfl⟩
                rw [← hdn]
                clear hms hss hvs hdn Sq Q QO k1 k2 mx2
                go_wp2
                go_roundw
                case rel => exact ⟨k + 1, n + 1, vs, d, x, q, xc, P, by omega, by omega, by omega, by go_num, rfl, Ss.out.B, Ss.out.M, FD.out, DS.out, DD.out, PQ.out, hq100, PB.out, Qs.out.1, Qs.out.2, Ss.out.xm⟩
                case measure => simp [intOf]; omega
              · rw [decide_eq_false hPL] at hsl
                have HSL := Lib.hid hsl
                have hslz := hsl 0
                rw [drew0] at hslz
                have HSLz := Lib.hid hslz
                clear hsl hPL hslz
                go_wp2_with (go_at_call 25; first | (with_reducible refine (HSLz.out).mono ?_; rintro e w' ⟨rfl, j1, rfl⟩) | (with_reducible refine (HSL.out _).mono ?_; rintro e w' ⟨rfl, j1, rfl⟩) | (with_reducible refine (HSP.out _).mono ?_; rintro e w' ⟨rfl, j1, rfl⟩))
                go_at_call 26
                clear HSL HSLz
                (try clear HSP)
                refine (mScrub (Sq.out.below (below_drews _ wq _)).M).mono ?_
                rintro e ws (⟨h, _⟩ | ⟨_, h, _⟩ | ⟨_, _, rfl, vs, hvs, hms, hss⟩)
                · exact absurd (upd_same _ _ _) h
                · omega
                rw [k2] at hms
                have hms := hms.congr (ls' := sel4 d d d []) (fun i hi => by rw [upd_same])
                have Ss := Lib.hid ((Sq.out.below (below_drews _ wq _)).step hms hss)
                have Qs := Lib.hid (hss.row (own_keep Q.out (below_drews _ wq _)) QO.out)
                obtain ⟨dn, hdn⟩ : ∃ dn, dn = dcount (upd (A4 c d 0) 3 []) (best (upd (A4 c d 0) 3 [])) 3 := ⟨_, rfl⟩
                rw [← hdn]
                clear hms hss hvs hdn Sq Q QO k1 k2 mx2
                go_wp2
                go_roundw
                case rel => exact ⟨k + 1, n + 1, vs, d, x, q, xc, P, by omega, by omega, by omega, by go_num, rfl, Ss.out.B, Ss.out.M, FD.out, DS.out, DD.out, PQ.out, hq100, PB.out, Qs.out.1, Qs.out.2, Ss.out.xm⟩
                case measure => simp [intOf]; omega
            · have hhI' : (x2 : Int) % 4 = 1 := hhI
              go_wp2_with fail
              skip
              obtain ⟨ba, hba⟩ : ∃ ba, ba = w5.heap.size := ⟨_, rfl⟩
              have s6 := (St0 0).out ba hba
              obtain ⟨w6, hw6⟩ : ∃ w6, w6 = w5.alloc (.cells #[.int .u16 0] 31) := ⟨_, rfl⟩
              have s6 : St w w6 g ba bm 0 v (sel4 c c c []) a pa m q ca pk L P := by rw [hw6]; exact s6
              rw [← hba, ← hw6]
              have S6 := Lib.hid s6
              have AT := Lib.hid (show 0 < 65536 by omega)
              have h8 : ∀ i, i < 3 → 8 ≤ (sel4 c c c [] i).length := fun i hi => by rw [sel_at c hi]; exact FI.out.len
              clear s6 hba hw6 St0 B5 M5 P5 O5 R5 X5 hgw LO
              refine (S6.out.hit (when := 1) h8 AT.out (by omega)).mono ?_
              rintro e w7 ⟨⟨u, rfl⟩, s7⟩
              have S7 := Lib.hid (show St w w7 g ba bm 0 v (A1 c 0) a pa m q ca pk L P from s7)
              clear s7 S6 h8
              have hBG := mBegin pa pk w7.heap.size P S7.out.M (Nat.le_refl _) (S7.out.rdP PQ.out) PB.out
              rw [PQ.out, A1_top 0 FI.out, SQ.out] at hBG
              have HBG := Lib.hid hBG
              clear hBG
              have FD := Lib.hid (Fine.of (n + 1) PB.out (by rw [PQ.out]; omega))
              have DS := Lib.hid (mkCell_seq (n + 1) P (by omega))
              have DD := Lib.hid (mkCell_dat (n + 1) P)
              have mx := box_cell S7.out.xm
              go_wp2_with fail
              go_at_call 21
              refine HBG.out.mono ?_
              rintro e w8 (⟨h, _⟩ | ⟨_, h, _⟩ | ⟨_, _, h, _⟩ | ⟨_, _, _, rfl, v8, hm8, hs8⟩)
              · omega
              · exact absurd (A1_3 c 0) h
              · omega
              obtain ⟨d, hd⟩ : ∃ d, d = mkCell (n + 1) P := ⟨_, rfl⟩
              rw [← hd] at hm8 FD DS DD
              have S8 := Lib.hid (S7.out.step hm8 hs8)
              clear hm8 hs8 HBG hd S7 mx
              go_wp2_with fail
              go_at_call 19
              refine (S8.out.hit (when := 2) (sel_len (c := c) FD.out (A1_len FI.out 0)) AT.out (by omega)).mono ?_
              rintro e w9 ⟨⟨u, rfl⟩, s9⟩
              have S9 := Lib.hid (show St w w9 g ba bm 0 v8 (A2 c d 0) a pa m q ca pk L P from s9)
              clear s9 S8
              go_wp2_with fail
              go_at_call 19
              refine (S9.out.hit (when := 3) (A2_len FI.out FD.out 0) AT.out (by omega)).mono ?_
              rintro e wz ⟨⟨u, rfl⟩, sz⟩
              have Sz := Lib.hid (show St w wz g ba bm 0 v8 (A3 c d 0) a pa m q ca pk L P from sz)
              clear sz S9
              obtain ⟨k1, k2⟩ := A3_good 0 FI.out FD.out
              have K2 := Lib.hid k2
              clear k2
              have mx := box_cell Sz.out.xm
              go_wp2_with fail
              go_at_call 23
              refine (mReset Sz.out.M).mono ?_
              rintro e wb ⟨⟨u, rfl⟩, hmb, hsb⟩
              have Sb := Lib.hid (Sz.out.step hmb hsb)
              clear hmb hsb Sz mx
              have mx := box_cell Sb.out.xm
              go_wp2_with fail
              go_at_call 24
              refine (mRead Sb.out.M).mono ?_
              rintro e wq ⟨hbq, ⟨h, _⟩ | ⟨_, x, xc, rfl, hown⟩⟩
              · omega
              have hx0 := Sb.out.M.off hown
              rcases K2.out with k2 | k2
              · have hbb : upd (A3 c d 0) 3 [] (vst (upd (A3 c d 0) 3 []) 3).2 = c := k2
                rw [hbb, DT.out, LM.out] at hown hx0
                rw [hbb, DT.out, LM.out]
                have Sq := Lib.hid (Sb.out.below hbq)
                have hq := World.ownsRow.mono hown Sb.out.B.size
                have Q := Lib.hid hq
                have QO := Lib.hid hx0
                clear hown hx0 hbq mx hq Sb
                have mx2 : ∀ j, (wq.drewN j).cell? ⟨bm, 0, none⟩ = some (.pointer (some ⟨g, 0, none⟩)) := fun j => box_cell (Sq.out.below (below_drews _ wq j)).xm
                have hsl := same_at LM.out LM.out Q.out Sq.out.lr LB.out LB.out
                rw [decide_eq_true (rfl : L = L)] at hsl
                have HSL := Lib.hid hsl
                have hslz := hsl 0
                rw [drew0] at hslz
                have HSLz := Lib.hid hslz
                have HSP := HSL
                clear hsl hslz hbb
                go_wp2_with (go_at_call 25; first | (with_reducible refine (HSLz.out).mono ?_; rintro e w' ⟨rfl, j1, rfl⟩) | (with_reducible refine (HSL.out _).mono ?_; rintro e w' ⟨rfl, j1, rfl⟩) | (with_reducible refine (HSP.out _).mono ?_; rintro e w' ⟨rfl, j1, rfl⟩))
                go_at_call 26
                clear HSL HSLz
                (try clear HSP)
                refine (mScrub (Sq.out.below (below_drews _ wq _)).M).mono ?_
                rintro e ws (⟨h, _⟩ | ⟨_, h, _⟩ | ⟨_, _, rfl, vs, hvs, hms, hss⟩)
                · exact absurd (upd_same _ _ _) h
                · omega
                rw [k2] at hms
                have hms := hms.congr (ls' := sel4 c c c []) (fun i hi => by rw [upd_same])
                have Ss := Lib.hid ((Sq.out.below (below_drews _ wq _)).step hms hss)
                have Qs := Lib.hid (hss.row (own_keep Q.out (below_drews _ wq _)) QO.out)
                obtain ⟨dn, hdn⟩ : ∃ dn, dn = dcount (upd (A3 c d 0) 3 []) (best (upd (A3 c d 0) 3 [])) 3 := ⟨_, rfl⟩
                rw [← hdn]
                clear hms hss hvs hdn Sq Q QO k1 k2 mx2
                go_wp2
                go_roundw
                case rel => exact ⟨k + 1, n, vs, c, x, m, xc, L, by omega, by omega, by omega, by go_num, rfl, Ss.out.B, Ss.out.M, FI.out, SQ.out, DT.out, LM.out, hm100, LB.out, Qs.out.1, Qs.out.2, Ss.out.xm⟩
                case measure => simp [intOf]; omega
              · have hbb : upd (A3 c d 0) 3 [] (vst (upd (A3 c d 0) 3 []) 3).2 = d := k2
                rw [hbb, DD.out, PQ.out] at hown hx0
                rw [hbb, DD.out, PQ.out]
                have Sq := Lib.hid (Sb.out.below hbq)
                have hq := World.ownsRow.mono hown Sb.out.B.size
                have Q := Lib.hid hq
                have QO := Lib.hid hx0
                clear hown hx0 hbq mx hq Sb
                have mx2 : ∀ j, (wq.drewN j).cell? ⟨bm, 0, none⟩ = some (.pointer (some ⟨g, 0, none⟩)) := fun j => box_cell (Sq.out.below (below_drews _ wq j)).xm
                have hsl := same_at PQ.out LM.out Q.out Sq.out.lr PB.out LB.out
                have hsp := same_at PQ.out PQ.out Q.out Sq.out.pr PB.out PB.out
                rw [decide_eq_true (rfl : P = P)] at hsp
                have HSP := Lib.hid hsp
                clear hsp hbb
                by_cases hPL : P = L
                · rw [decide_eq_true hPL] at hsl
                  have HSL := Lib.hid hsl
                  have hslz := hsl 0
                  rw [drew0] at hslz
                  have HSLz := Lib.hid hslz
                  clear hsl hPL hslz
                  go_wp2_with (go_at_call 25; first | (with_reducible refine (HSLz.out).mono ?_; rintro e w' ⟨rfl, j1, rfl⟩) | (with_reducible refine (HSL.out _).mono ?_; rintro e w' ⟨rfl, j1, rfl⟩) | (with_reducible refine (HSP.out _).mono ?_; rintro e w' ⟨rfl, j1, rfl⟩))
                  go_at_call 26
                  clear HSL HSLz
                  (try clear HSP)
                  refine (mScrub (Sq.out.below (below_drews _ wq _)).M).mono ?_
                  rintro e ws (⟨h, _⟩ | ⟨_, h, _⟩ | ⟨_, _, rfl, vs, hvs, hms, hss⟩)
                  · exact absurd (upd_same _ _ _) h
                  · omega
                  rw [k2] at hms
                  have hms := hms.congr (ls' := sel4 d d d []) (fun i hi => by rw [upd_same])
                  have Ss := Lib.hid ((Sq.out.below (below_drews _ wq _)).step hms hss)
                  have Qs := Lib.hid (hss.row (own_keep Q.out (below_drews _ wq _)) QO.out)
                  obtain ⟨dn, hdn⟩ : ∃ dn, dn = dcount (upd (A3 c d 0) 3 []) (best (upd (A3 c d 0) 3 [])) 3 := ⟨_, rfl⟩
                  rw [← hdn]
                  clear hms hss hvs hdn Sq Q QO k1 k2 mx2
                  go_wp2
                  go_roundw
                  case rel => exact ⟨k + 1, n + 1, vs, d, x, q, xc, P, by omega, by omega, by omega, by go_num, rfl, Ss.out.B, Ss.out.M, FD.out, DS.out, DD.out, PQ.out, hq100, PB.out, Qs.out.1, Qs.out.2, Ss.out.xm⟩
                  case measure => simp [intOf]; omega
                · rw [decide_eq_false hPL] at hsl
                  have HSL := Lib.hid hsl
                  have hslz := hsl 0
                  rw [drew0] at hslz
                  have HSLz := Lib.hid hslz
                  clear hsl hPL hslz
                  go_wp2_with (go_at_call 25; first | (with_reducible refine (HSLz.out).mono ?_; rintro e w' ⟨rfl, j1, rfl⟩) | (with_reducible refine (HSL.out _).mono ?_; rintro e w' ⟨rfl, j1, rfl⟩) | (with_reducible refine (HSP.out _).mono ?_; rintro e w' ⟨rfl, j1, rfl⟩))
                  go_at_call 26
                  clear HSL HSLz
                  (try clear HSP)
                  refine (mScrub (Sq.out.below (below_drews _ wq _)).M).mono ?_
                  rintro e ws (⟨h, _⟩ | ⟨_, h, _⟩ | ⟨_, _, rfl, vs, hvs, hms, hss⟩)
                  · exact absurd (upd_same _ _ _) h
                  · omega
                  rw [k2] at hms
                  have hms := hms.congr (ls' := sel4 d d d []) (fun i hi => by rw [upd_same])
                  have Ss := Lib.hid ((Sq.out.below (below_drews _ wq _)).step hms hss)
                  have Qs := Lib.hid (hss.row (own_keep Q.out (below_drews _ wq _)) QO.out)
                  obtain ⟨dn, hdn⟩ : ∃ dn, dn = dcount (upd (A3 c d 0) 3 []) (best (upd (A3 c d 0) 3 [])) 3 := ⟨_, rfl⟩
                  rw [← hdn]
                  clear hms hss hvs hdn Sq Q QO k1 k2 mx2
                  go_wp2
                  go_roundw
                  case rel => exact ⟨k + 1, n + 1, vs, d, x, q, xc, P, by omega, by omega, by omega, by go_num, rfl, Ss.out.B, Ss.out.M, FD.out, DS.out, DD.out, PQ.out, hq100, PB.out, Qs.out.1, Qs.out.2, Ss.out.xm⟩
                  case measure => simp [intOf]; omega
            · have hhI' : (x2 : Int) % 4 = 2 := hhI
              go_wp2_with fail
              skip
              obtain ⟨ba, hba⟩ : ∃ ba, ba = w5.heap.size := ⟨_, rfl⟩
              have s6 := (St0 0).out ba hba
              obtain ⟨w6, hw6⟩ : ∃ w6, w6 = w5.alloc (.cells #[.int .u16 0] 31) := ⟨_, rfl⟩
              have s6 : St w w6 g ba bm 0 v (sel4 c c c []) a pa m q ca pk L P := by rw [hw6]; exact s6
              rw [← hba, ← hw6]
              have S6 := Lib.hid s6
              have AT := Lib.hid (show 0 < 65536 by omega)
              have h8 : ∀ i, i < 3 → 8 ≤ (sel4 c c c [] i).length := fun i hi => by rw [sel_at c hi]; exact FI.out.len
              clear s6 hba hw6 St0 B5 M5 P5 O5 R5 X5 hgw LO
              refine (S6.out.hit (when := 1) h8 AT.out (by omega)).mono ?_
              rintro e w7 ⟨⟨u, rfl⟩, s7⟩
              have S7 := Lib.hid (show St w w7 g ba bm 0 v (A1 c 0) a pa m q ca pk L P from s7)
              clear s7 S6 h8
              have hBG := mBegin pa pk w7.heap.size P S7.out.M (Nat.le_refl _) (S7.out.rdP PQ.out) PB.out
              rw [PQ.out, A1_top 0 FI.out, SQ.out] at hBG
              have HBG := Lib.hid hBG
              clear hBG
              have FD := Lib.hid (Fine.of (n + 1) PB.out (by rw [PQ.out]; omega))
              have DS := Lib.hid (mkCell_seq (n + 1) P (by omega))
              have DD := Lib.hid (mkCell_dat (n + 1) P)
              have mx := box_cell S7.out.xm
              go_wp2_with fail
              go_at_call 21
              refine HBG.out.mono ?_
              rintro e w8 (⟨h, _⟩ | ⟨_, h, _⟩ | ⟨_, _, h, _⟩ | ⟨_, _, _, rfl, v8, hm8, hs8⟩)
              · omega
              · exact absurd (A1_3 c 0) h
              · omega
              obtain ⟨d, hd⟩ : ∃ d, d = mkCell (n + 1) P := ⟨_, rfl⟩
              rw [← hd] at hm8 FD DS DD
              have S8 := Lib.hid (S7.out.step hm8 hs8)
              clear hm8 hs8 HBG hd S7 mx
              go_wp2_with fail
              go_at_call 19
              refine (S8.out.hit (when := 2) (sel_len (c := c) FD.out (A1_len FI.out 0)) AT.out (by omega)).mono ?_
              rintro e w9 ⟨⟨u, rfl⟩, s9⟩
              have S9 := Lib.hid (show St w w9 g ba bm 0 v8 (A2 c d 0) a pa m q ca pk L P from s9)
              clear s9 S8
              go_wp2_with fail
              go_at_call 19
              refine (S9.out.hit (when := 3) (A2_len FI.out FD.out 0) AT.out (by omega)).mono ?_
              rintro e wz ⟨⟨u, rfl⟩, sz⟩
              have Sz := Lib.hid (show St w wz g ba bm 0 v8 (A3 c d 0) a pa m q ca pk L P from sz)
              clear sz S9
              obtain ⟨k1, k2⟩ := A3_good 0 FI.out FD.out
              have K2 := Lib.hid k2
              clear k2
              have mx := box_cell Sz.out.xm
              go_wp2_with fail
              go_at_call 23
              refine (mReset Sz.out.M).mono ?_
              rintro e wb ⟨⟨u, rfl⟩, hmb, hsb⟩
              have Sb := Lib.hid (Sz.out.step hmb hsb)
              clear hmb hsb Sz mx
              have mx := box_cell Sb.out.xm
              go_wp2_with fail
              go_at_call 24
              refine (mRead Sb.out.M).mono ?_
              rintro e wq ⟨hbq, ⟨h, _⟩ | ⟨_, x, xc, rfl, hown⟩⟩
              · omega
              have hx0 := Sb.out.M.off hown
              rcases K2.out with k2 | k2
              · have hbb : upd (A3 c d 0) 3 [] (vst (upd (A3 c d 0) 3 []) 3).2 = c := k2
                rw [hbb, DT.out, LM.out] at hown hx0
                rw [hbb, DT.out, LM.out]
                have Sq := Lib.hid (Sb.out.below hbq)
                have hq := World.ownsRow.mono hown Sb.out.B.size
                have Q := Lib.hid hq
                have QO := Lib.hid hx0
                clear hown hx0 hbq mx hq Sb
                have mx2 : ∀ j, (wq.drewN j).cell? ⟨bm, 0, none⟩ = some (.pointer (some ⟨g, 0, none⟩)) := fun j => box_cell (Sq.out.below (below_drews _ wq j)).xm
                have hsl := same_at LM.out LM.out Q.out Sq.out.lr LB.out LB.out
                rw [decide_eq_true (rfl : L = L)] at hsl
                have HSL := Lib.hid hsl
                have hslz := hsl 0
                rw [drew0] at hslz
                have HSLz := Lib.hid hslz
                have HSP := HSL
                clear hsl hslz hbb
                go_wp2_with (go_at_call 25; first | (with_reducible refine (HSLz.out).mono ?_; rintro e w' ⟨rfl, j1, rfl⟩) | (with_reducible refine (HSL.out _).mono ?_; rintro e w' ⟨rfl, j1, rfl⟩) | (with_reducible refine (HSP.out _).mono ?_; rintro e w' ⟨rfl, j1, rfl⟩))
                go_at_call 26
                clear HSL HSLz
                (try clear HSP)
                refine (mScrub (Sq.out.below (below_drews _ wq _)).M).mono ?_
                rintro e ws (⟨h, _⟩ | ⟨_, h, _⟩ | ⟨_, _, rfl, vs, hvs, hms, hss⟩)
                · exact absurd (upd_same _ _ _) h
                · omega
                rw [k2] at hms
                have hms := hms.congr (ls' := sel4 c c c []) (fun i hi => by rw [upd_same])
                have Ss := Lib.hid ((Sq.out.below (below_drews _ wq _)).step hms hss)
                have Qs := Lib.hid (hss.row (own_keep Q.out (below_drews _ wq _)) QO.out)
                obtain ⟨dn, hdn⟩ : ∃ dn, dn = dcount (upd (A3 c d 0) 3 []) (best (upd (A3 c d 0) 3 [])) 3 := ⟨_, rfl⟩
                rw [← hdn]
                clear hms hss hvs hdn Sq Q QO k1 k2 mx2
                go_wp2
                go_roundw
                case rel => exact ⟨k + 1, n, vs, c, x, m, xc, L, by omega, by omega, by omega, by go_num, rfl, Ss.out.B, Ss.out.M, FI.out, SQ.out, DT.out, LM.out, hm100, LB.out, Qs.out.1, Qs.out.2, Ss.out.xm⟩
                case measure => simp [intOf]; omega
              · have hbb : upd (A3 c d 0) 3 [] (vst (upd (A3 c d 0) 3 []) 3).2 = d := k2
                rw [hbb, DD.out, PQ.out] at hown hx0
                rw [hbb, DD.out, PQ.out]
                have Sq := Lib.hid (Sb.out.below hbq)
                have hq := World.ownsRow.mono hown Sb.out.B.size
                have Q := Lib.hid hq
                have QO := Lib.hid hx0
                clear hown hx0 hbq mx hq Sb
                have mx2 : ∀ j, (wq.drewN j).cell? ⟨bm, 0, none⟩ = some (.pointer (some ⟨g, 0, none⟩)) := fun j => box_cell (Sq.out.below (below_drews _ wq j)).xm
                have hsl := same_at PQ.out LM.out Q.out Sq.out.lr PB.out LB.out
                have hsp := same_at PQ.out PQ.out Q.out Sq.out.pr PB.out PB.out
                rw [decide_eq_true (rfl : P = P)] at hsp
                have HSP := Lib.hid hsp
                clear hsp hbb
                by_cases hPL : P = L
                · rw [decide_eq_true hPL] at hsl
                  have HSL := Lib.hid hsl
                  have hslz := hsl 0
                  rw [drew0] at hslz
                  have HSLz := Lib.hid hslz
                  clear hsl hPL hslz
                  go_wp2_with (go_at_call 25; first | (with_reducible refine (HSLz.out).mono ?_; rintro e w' ⟨rfl, j1, rfl⟩) | (with_reducible refine (HSL.out _).mono ?_; rintro e w' ⟨rfl, j1, rfl⟩) | (with_reducible refine (HSP.out _).mono ?_; rintro e w' ⟨rfl, j1, rfl⟩))
                  go_at_call 26
                  clear HSL HSLz
                  (try clear HSP)
                  refine (mScrub (Sq.out.below (below_drews _ wq _)).M).mono ?_
                  rintro e ws (⟨h, _⟩ | ⟨_, h, _⟩ | ⟨_, _, rfl, vs, hvs, hms, hss⟩)
                  · exact absurd (upd_same _ _ _) h
                  · omega
                  rw [k2] at hms
                  have hms := hms.congr (ls' := sel4 d d d []) (fun i hi => by rw [upd_same])
                  have Ss := Lib.hid ((Sq.out.below (below_drews _ wq _)).step hms hss)
                  have Qs := Lib.hid (hss.row (own_keep Q.out (below_drews _ wq _)) QO.out)
                  obtain ⟨dn, hdn⟩ : ∃ dn, dn = dcount (upd (A3 c d 0) 3 []) (best (upd (A3 c d 0) 3 [])) 3 := ⟨_, rfl⟩
                  rw [← hdn]
                  clear hms hss hvs hdn Sq Q QO k1 k2 mx2
                  go_wp2
                  go_roundw
                  case rel => exact ⟨k + 1, n + 1, vs, d, x, q, xc, P, by omega, by omega, by omega, by go_num, rfl, Ss.out.B, Ss.out.M, FD.out, DS.out, DD.out, PQ.out, hq100, PB.out, Qs.out.1, Qs.out.2, Ss.out.xm⟩
                  case measure => simp [intOf]; omega
                · rw [decide_eq_false hPL] at hsl
                  have HSL := Lib.hid hsl
                  have hslz := hsl 0
                  rw [drew0] at hslz
                  have HSLz := Lib.hid hslz
                  clear hsl hPL hslz
                  go_wp2_with (go_at_call 25; first | (with_reducible refine (HSLz.out).mono ?_; rintro e w' ⟨rfl, j1, rfl⟩) | (with_reducible refine (HSL.out _).mono ?_; rintro e w' ⟨rfl, j1, rfl⟩) | (with_reducible refine (HSP.out _).mono ?_; rintro e w' ⟨rfl, j1, rfl⟩))
                  go_at_call 26
                  clear HSL HSLz
                  (try clear HSP)
                  refine (mScrub (Sq.out.below (below_drews _ wq _)).M).mono ?_
                  rintro e ws (⟨h, _⟩ | ⟨_, h, _⟩ | ⟨_, _, rfl, vs, hvs, hms, hss⟩)
                  · exact absurd (upd_same _ _ _) h
                  · omega
                  rw [k2] at hms
                  have hms := hms.congr (ls' := sel4 d d d []) (fun i hi => by rw [upd_same])
                  have Ss := Lib.hid ((Sq.out.below (below_drews _ wq _)).step hms hss)
                  have Qs := Lib.hid (hss.row (own_keep Q.out (below_drews _ wq _)) QO.out)
                  obtain ⟨dn, hdn⟩ : ∃ dn, dn = dcount (upd (A3 c d 0) 3 []) (best (upd (A3 c d 0) 3 [])) 3 := ⟨_, rfl⟩
                  rw [← hdn]
                  clear hms hss hvs hdn Sq Q QO k1 k2 mx2
                  go_wp2
                  go_roundw
                  case rel => exact ⟨k + 1, n + 1, vs, d, x, q, xc, P, by omega, by omega, by omega, by go_num, rfl, Ss.out.B, Ss.out.M, FD.out, DS.out, DD.out, PQ.out, hq100, PB.out, Qs.out.1, Qs.out.2, Ss.out.xm⟩
                  case measure => simp [intOf]; omega
            · have hhI' : (x2 : Int) % 4 = 3 := hhI
              go_wp2_with fail
              skip
              obtain ⟨ba, hba⟩ : ∃ ba, ba = w5.heap.size := ⟨_, rfl⟩
              have s6 := (St0 0).out ba hba
              obtain ⟨w6, hw6⟩ : ∃ w6, w6 = w5.alloc (.cells #[.int .u16 0] 31) := ⟨_, rfl⟩
              have s6 : St w w6 g ba bm 0 v (sel4 c c c []) a pa m q ca pk L P := by rw [hw6]; exact s6
              rw [← hba, ← hw6]
              have S6 := Lib.hid s6
              have AT := Lib.hid (show 0 < 65536 by omega)
              have h8 : ∀ i, i < 3 → 8 ≤ (sel4 c c c [] i).length := fun i hi => by rw [sel_at c hi]; exact FI.out.len
              clear s6 hba hw6 St0 B5 M5 P5 O5 R5 X5 hgw LO
              refine (S6.out.hit (when := 1) h8 AT.out (by omega)).mono ?_
              rintro e w7 ⟨⟨u, rfl⟩, s7⟩
              have S7 := Lib.hid (show St w w7 g ba bm 0 v (A1 c 0) a pa m q ca pk L P from s7)
              clear s7 S6 h8
              go_wp2_with fail
              go_at_call 19
              refine (S7.out.hit (when := 2) (A1_len FI.out 0) AT.out (by omega)).mono ?_
              rintro e w8 ⟨⟨u, rfl⟩, s8⟩
              have S8 := Lib.hid s8
              clear s8 S7
              go_wp2_with fail
              go_at_call 19
              refine (S8.out.hit (when := 3) (fun i hi => by rw [hitL_len]; exact A1_len FI.out 0 i hi) AT.out (by omega)).mono ?_
              rintro e wz ⟨⟨u, rfl⟩, sz⟩
              have Sz := Lib.hid (show St w wz g ba bm 0 v (A0 c 0) a pa m q ca pk L P from sz)
              clear sz S8
              obtain ⟨k1, k2⟩ := A0_good 0 FI.out
              have mx := box_cell Sz.out.xm
              go_wp2_with fail
              go_at_call 23
              refine (mReset Sz.out.M).mono ?_
              rintro e wb ⟨⟨u, rfl⟩, hmb, hsb⟩
              have Sb := Lib.hid (Sz.out.step hmb hsb)
              clear hmb hsb Sz mx
              have mx := box_cell Sb.out.xm
              go_wp2_with fail
              go_at_call 24
              refine (mRead Sb.out.M).mono ?_
              rintro e wq ⟨hbq, ⟨h, _⟩ | ⟨_, x, xc, rfl, hown⟩⟩
              · omega
              have hx0 := Sb.out.M.off hown
              have hbb : upd (A0 c 0) 3 [] (vst (upd (A0 c 0) 3 []) 3).2 = c := k2
              rw [hbb, DT.out, LM.out] at hown hx0
              rw [hbb, DT.out, LM.out]
              have Sq := Lib.hid (Sb.out.below hbq)
              have hq := World.ownsRow.mono hown Sb.out.B.size
              have Q := Lib.hid hq
              have QO := Lib.hid hx0
              clear hown hx0 hbq mx hq Sb
              have mx2 : ∀ j, (wq.drewN j).cell? ⟨bm, 0, none⟩ = some (.pointer (some ⟨g, 0, none⟩)) := fun j => box_cell (Sq.out.below (below_drews _ wq j)).xm
              have hsl := same_at LM.out LM.out Q.out Sq.out.lr LB.out LB.out
              rw [decide_eq_true (rfl : L = L)] at hsl
              have HSL := Lib.hid hsl
              have hslz := hsl 0
              rw [drew0] at hslz
              have HSLz := Lib.hid hslz
              have HSP := HSL
              clear hsl hslz hbb
              go_wp2_with (go_at_call 25; first | (with_reducible refine (HSLz.out).mono ?_; rintro e w' ⟨rfl, j1, rfl⟩) | (with_reducible refine (HSL.out _).mono ?_; rintro e w' ⟨rfl, j1, rfl⟩) | (with_reducible refine (HSP.out _).mono ?_; rintro e w' ⟨rfl, j1, rfl⟩))
              go_at_call 26
              clear HSL HSLz
              (try clear HSP)
              refine (mScrub (Sq.out.below (below_drews _ wq _)).M).mono ?_
              rintro e ws (⟨h, _⟩ | ⟨_, h, _⟩ | ⟨_, _, rfl, vs, hvs, hms, hss⟩)
              · exact absurd (upd_same _ _ _) h
              · omega
              rw [k2] at hms
              have hms := hms.congr (ls' := sel4 c c c []) (fun i hi => by rw [upd_same])
              have Ss := Lib.hid ((Sq.out.below (below_drews _ wq _)).step hms hss)
              have Qs := Lib.hid (hss.row (own_keep Q.out (below_drews _ wq _)) QO.out)
              obtain ⟨dn, hdn⟩ : ∃ dn, dn = dcount (upd (A0 c 0) 3 []) (best (upd (A0 c 0) 3 [])) 3 := ⟨_, rfl⟩
              rw [← hdn]
              clear hms hss hvs hdn Sq Q QO k1 k2 mx2
              go_wp2
              go_roundw
              case rel => exact ⟨k + 1, n, vs, c, x, m, xc, L, by omega, by omega, by omega, by go_num, rfl, Ss.out.B, Ss.out.M, FI.out, SQ.out, DT.out, LM.out, hm100, LB.out, Qs.out.1, Qs.out.2, Ss.out.xm⟩
              case measure => simp [intOf]; omega
        · have hk2' : ¬ ((k : Int) < (len2 : Int)) := by omega
          by_cases hk3 : k < len3
          · obtain ⟨b3, off3, rfl, hbk3, hc3⟩ := (HR3.out.below' B5.out (Nat.le_refl _)).at hk3
            have hx3 := HNS.out k
            obtain ⟨at_, hat⟩ : ∃ x, x = ns k := ⟨_, rfl⟩
            rw [← hat] at hc3 hx3
            clear hat
            have hc3' : (w5.alloc (.cells #[.int .u16 0] 31)).cell? ⟨b3, off3 + k, none⟩ = some (.int .u16 (at_ : Nat)) := by
              rw [(Below.refl w5.heap.size w5).alloc (Nat.le_refl _) _ |>.cell (p := ⟨b3, off3 + k, none⟩) (box_lt_of hc3)]
              exact hc3
            have hbb3 : b3 < w5.heap.size := box_lt_of hc3
            go_wp2_with fail
            skip
            obtain ⟨ba, hba⟩ : ∃ ba, ba = w5.heap.size := ⟨_, rfl⟩
            have s6 := (St0 at_).out ba hba
            obtain ⟨w6, hw6⟩ : ∃ w6, w6 = w5.alloc (.cells #[.int .u16 (at_ : Nat)] 31) := ⟨_, rfl⟩
            have s6 : St w w6 g ba bm at_ v (sel4 c c c []) a pa m q ca pk L P := by rw [hw6]; exact s6
            rw [← hba, ← hw6]
            have S6 := Lib.hid s6
            have AT := Lib.hid (show at_ < 65536 by omega)
            have h8 : ∀ i, i < 3 → 8 ≤ (sel4 c c c [] i).length := fun i hi => by rw [sel_at c hi]; exact FI.out.len
            clear s6 hba hw6 St0 B5 M5 P5 O5 R5 X5 hgw LO
            refine (S6.out.hit (when := 1) h8 AT.out (by omega)).mono ?_
            rintro e w7 ⟨⟨u, rfl⟩, s7⟩
            have S7 := Lib.hid (show St w w7 g ba bm at_ v (A1 c at_) a pa m q ca pk L P from s7)
            clear s7 S6 h8
            have hBG := mBegin pa pk w7.heap.size P S7.out.M (Nat.le_refl _) (S7.out.rdP PQ.out) PB.out
            rw [PQ.out, A1_top at_ FI.out, SQ.out] at hBG
            have HBG := Lib.hid hBG
            clear hBG
            have FD := Lib.hid (Fine.of (n + 1) PB.out (by rw [PQ.out]; omega))
            have DS := Lib.hid (mkCell_seq (n + 1) P (by omega))
            have DD := Lib.hid (mkCell_dat (n + 1) P)
            have mx := box_cell S7.out.xm
            go_wp2_with fail
            go_at_call 21
            refine HBG.out.mono ?_
            rintro e w8 (⟨h, _⟩ | ⟨_, h, _⟩ | ⟨_, _, h, _⟩ | ⟨_, _, _, rfl, v8, hm8, hs8⟩)
            · omega
            · exact absurd (A1_3 c at_) h
            · omega
            obtain ⟨d, hd⟩ : ∃ d, d = mkCell (n + 1) P := ⟨_, rfl⟩
            rw [← hd] at hm8 FD DS DD
            have S8 := Lib.hid (S7.out.step hm8 hs8)
            clear hm8 hs8 HBG hd S7 mx
            go_wp2_with fail
            go_at_call 19
            refine (S8.out.hit (when := 2) (sel_len (c := c) FD.out (A1_len FI.out at_)) AT.out (by omega)).mono ?_
            rintro e w9 ⟨⟨u, rfl⟩, s9⟩
            have S9 := Lib.hid (show St w w9 g ba bm at_ v8 (A2 c d at_) a pa m q ca pk L P from s9)
            clear s9 S8
            have mx := box_cell S9.out.xm
            go_wp2_with fail
            go_at_call 22
            refine (mFinish S9.out.M (by rw [A2_3]; exact FD.out.ne)).mono ?_
            rintro e wa ⟨rfl, va, hma, hsa⟩
            rw [A2_3] at hma
            have Sa := Lib.hid (S9.out.step hma hsa)
            clear hma hsa S9 mx
            go_wp2_with fail
            go_at_call 19
            refine (Sa.out.hit (when := 3) (A4_len FI.out FD.out at_) AT.out (by omega)).mono ?_
            rintro e wz ⟨⟨u, rfl⟩, sz⟩
            have Sz := Lib.hid (show St w wz g ba bm at_ va (A4 c d at_) a pa m q ca pk L P from sz)
            clear sz Sa
            obtain ⟨k1, k2⟩ := A4_good at_ FI.out FD.out
            have mx := box_cell Sz.out.xm
            go_wp2_with fail
            go_at_call 23
            refine (mReset Sz.out.M).mono ?_
            rintro e wb ⟨⟨u, rfl⟩, hmb, hsb⟩
            have Sb := Lib.hid (Sz.out.step hmb hsb)
            clear hmb hsb Sz mx
            have mx := box_cell Sb.out.xm
            go_wp2_with fail
            go_at_call 24
            refine (mRead Sb.out.M).mono ?_
            rintro e wq ⟨hbq, ⟨h, _⟩ | ⟨_, x, xc, rfl, hown⟩⟩
            · omega
            have hx0 := Sb.out.M.off hown
            have hbb : upd (A4 c d at_) 3 [] (vst (upd (A4 c d at_) 3 []) 3).2 = d := k2
            rw [hbb, DD.out, PQ.out] at hown hx0
            rw [hbb, DD.out, PQ.out]
            have Sq := Lib.hid (Sb.out.below hbq)
            have hq := World.ownsRow.mono hown Sb.out.B.size
            have Q := Lib.hid hq
            have QO := Lib.hid hx0
            clear hown hx0 hbq mx hq Sb
            have mx2 : ∀ j, (wq.drewN j).cell? ⟨bm, 0, none⟩ = some (.pointer (some ⟨g, 0, none⟩)) := fun j => box_cell (Sq.out.below (below_drews _ wq j)).xm
            have hsl := same_at PQ.out LM.out Q.out Sq.out.lr PB.out LB.out
            have hsp := same_at PQ.out PQ.out Q.out Sq.out.pr PB.out PB.out
            rw [decide_eq_true (rfl : P = P)] at hsp
            have HSP := Lib.hid hsp
            clear hsp hbb
            by_cases hPL : P = L
            · rw [decide_eq_true hPL] at hsl
              have HSL := Lib.hid hsl
              have hslz := hsl 0
              rw [drew0] at hslz
              have HSLz := Lib.hid hslz
              clear hsl hPL hslz
              go_wp2_with (go_at_call 25; first | (with_reducible refine (HSLz.out).mono ?_; rintro e w' ⟨rfl, j1, rfl⟩) | (with_reducible refine (HSL.out _).mono ?_; rintro e w' ⟨rfl, j1, rfl⟩) | (with_reducible refine (HSP.out _).mono ?_; rintro e w' ⟨rfl, j1, rfl⟩))
              go_at_call 26
              clear HSL HSLz
              (try clear HSP)
              refine (mScrub (Sq.out.below (below_drews _ wq _)).M).mono ?_
              rintro e ws (⟨h, _⟩ | ⟨_, h, _⟩ | ⟨_, _, rfl, vs, hvs, hms, hss⟩)
              · exact absurd (upd_same _ _ _) h
              · omega
              rw [k2] at hms
              have hms := hms.congr (ls' := sel4 d d d []) (fun i hi => by rw [upd_same])
              have Ss := Lib.hid ((Sq.out.below (below_drews _ wq _)).step hms hss)
              have Qs := Lib.hid (hss.row (own_keep Q.out (below_drews _ wq _)) QO.out)
              obtain ⟨dn, hdn⟩ : ∃ dn, dn = dcount (upd (A4 c d at_) 3 []) (best (upd (A4 c d at_) 3 [])) 3 := ⟨_, rfl⟩
              rw [← hdn]
              clear hms hss hvs hdn Sq Q QO k1 k2 mx2
              go_wp2
              go_roundw
              case rel => exact ⟨k + 1, n + 1, vs, d, x, q, xc, P, by omega, by omega, by omega, by go_num, rfl, Ss.out.B, Ss.out.M, FD.out, DS.out, DD.out, PQ.out, hq100, PB.out, Qs.out.1, Qs.out.2, Ss.out.xm⟩
              case measure => simp [intOf]; omega
            · rw [decide_eq_false hPL] at hsl
              have HSL := Lib.hid hsl
              have hslz := hsl 0
              rw [drew0] at hslz
              have HSLz := Lib.hid hslz
              clear hsl hPL hslz
              go_wp2_with (go_at_call 25; first | (with_reducible refine (HSLz.out).mono ?_; rintro e w' ⟨rfl, j1, rfl⟩) | (with_reducible refine (HSL.out _).mono ?_; rintro e w' ⟨rfl, j1, rfl⟩) | (with_reducible refine (HSP.out _).mono ?_; rintro e w' ⟨rfl, j1, rfl⟩))
              go_at_call 26
              clear HSL HSLz
              (try clear HSP)
              refine (mScrub (Sq.out.below (below_drews _ wq _)).M).mono ?_
              rintro e ws (⟨h, _⟩ | ⟨_, h, _⟩ | ⟨_, _, rfl, vs, hvs, hms, hss⟩)
              · exact absurd (upd_same _ _ _) h
              · omega
              rw [k2] at hms
              have hms := hms.congr (ls' := sel4 d d d []) (fun i hi => by rw [upd_same])
              have Ss := Lib.hid ((Sq.out.below (below_drews _ wq _)).step hms hss)
              have Qs := Lib.hid (hss.row (own_keep Q.out (below_drews _ wq _)) QO.out)
              obtain ⟨dn, hdn⟩ : ∃ dn, dn = dcount (upd (A4 c d at_) 3 []) (best (upd (A4 c d at_) 3 [])) 3 := ⟨_, rfl⟩
              rw [← hdn]
              clear hms hss hvs hdn Sq Q QO k1 k2 mx2
              go_wp2
              go_roundw
              case rel => exact ⟨k + 1, n + 1, vs, d, x, q, xc, P, by omega, by omega, by omega, by go_num, rfl, Ss.out.B, Ss.out.M, FD.out, DS.out, DD.out, PQ.out, hq100, PB.out, Qs.out.1, Qs.out.2, Ss.out.xm⟩
              case measure => simp [intOf]; omega
          · have hk3' : ¬ ((k : Int) < (len3 : Int)) := by omega
            go_wp2_with fail
            skip
            obtain ⟨ba, hba⟩ : ∃ ba, ba = w5.heap.size := ⟨_, rfl⟩
            have s6 := (St0 0).out ba hba
            obtain ⟨w6, hw6⟩ : ∃ w6, w6 = w5.alloc (.cells #[.int .u16 0] 31) := ⟨_, rfl⟩
            have s6 : St w w6 g ba bm 0 v (sel4 c c c []) a pa m q ca pk L P := by rw [hw6]; exact s6
            rw [← hba, ← hw6]
            have S6 := Lib.hid s6
            have AT := Lib.hid (show 0 < 65536 by omega)
            have h8 : ∀ i, i < 3 → 8 ≤ (sel4 c c c [] i).length := fun i hi => by rw [sel_at c hi]; exact FI.out.len
            clear s6 hba hw6 St0 B5 M5 P5 O5 R5 X5 hgw LO
            refine (S6.out.hit (when := 1) h8 AT.out (by omega)).mono ?_
            rintro e w7 ⟨⟨u, rfl⟩, s7⟩
            have S7 := Lib.hid (show St w w7 g ba bm 0 v (A1 c 0) a pa m q ca pk L P from s7)
            clear s7 S6 h8
            have hBG := mBegin pa pk w7.heap.size P S7.out.M (Nat.le_refl _) (S7.out.rdP PQ.out) PB.out
            rw [PQ.out, A1_top 0 FI.out, SQ.out] at hBG
            have HBG := Lib.hid hBG
            clear hBG
            have FD := Lib.hid (Fine.of (n + 1) PB.out (by rw [PQ.out]; omega))
            have DS := Lib.hid (mkCell_seq (n + 1) P (by omega))
            have DD := Lib.hid (mkCell_dat (n + 1) P)
            have mx := box_cell S7.out.xm
            go_wp2_with fail
            go_at_call 21
            refine HBG.out.mono ?_
            rintro e w8 (⟨h, _⟩ | ⟨_, h, _⟩ | ⟨_, _, h, _⟩ | ⟨_, _, _, rfl, v8, hm8, hs8⟩)
            · omega
            · exact absurd (A1_3 c 0) h
            · omega
            obtain ⟨d, hd⟩ : ∃ d, d = mkCell (n + 1) P := ⟨_, rfl⟩
            rw [← hd] at hm8 FD DS DD
            have S8 := Lib.hid (S7.out.step hm8 hs8)
            clear hm8 hs8 HBG hd S7 mx
            go_wp2_with fail
            go_at_call 19
            refine (S8.out.hit (when := 2) (sel_len (c := c) FD.out (A1_len FI.out 0)) AT.out (by omega)).mono ?_
            rintro e w9 ⟨⟨u, rfl⟩, s9⟩
            have S9 := Lib.hid (show St w w9 g ba bm 0 v8 (A2 c d 0) a pa m q ca pk L P from s9)
            clear s9 S8
            have mx := box_cell S9.out.xm
            go_wp2_with fail
            go_at_call 22
            refine (mFinish S9.out.M (by rw [A2_3]; exact FD.out.ne)).mono ?_
            rintro e wa ⟨rfl, va, hma, hsa⟩
            rw [A2_3] at hma
            have Sa := Lib.hid (S9.out.step hma hsa)
            clear hma hsa S9 mx
            go_wp2_with fail
            go_at_call 19
            refine (Sa.out.hit (when := 3) (A4_len FI.out FD.out 0) AT.out (by omega)).mono ?_
            rintro e wz ⟨⟨u, rfl⟩, sz⟩
            have Sz := Lib.hid (show St w wz g ba bm 0 va (A4 c d 0) a pa m q ca pk L P from sz)
            clear sz Sa
            obtain ⟨k1, k2⟩ := A4_good 0 FI.out FD.out
            have mx := box_cell Sz.out.xm
            go_wp2_with fail
            go_at_call 23
            refine (mReset Sz.out.M).mono ?_
            rintro e wb ⟨⟨u, rfl⟩, hmb, hsb⟩
            have Sb := Lib.hid (Sz.out.step hmb hsb)
            clear hmb hsb Sz mx
            have mx := box_cell Sb.out.xm
            go_wp2_with fail
            go_at_call 24
            refine (mRead Sb.out.M).mono ?_
            rintro e wq ⟨hbq, ⟨h, _⟩ | ⟨_, x, xc, rfl, hown⟩⟩
            · omega
            have hx0 := Sb.out.M.off hown
            have hbb : upd (A4 c d 0) 3 [] (vst (upd (A4 c d 0) 3 []) 3).2 = d := k2
            rw [hbb, DD.out, PQ.out] at hown hx0
            rw [hbb, DD.out, PQ.out]
            have Sq := Lib.hid (Sb.out.below hbq)
            have hq := World.ownsRow.mono hown Sb.out.B.size
            have Q := Lib.hid hq
            have QO := Lib.hid hx0
            clear hown hx0 hbq mx hq Sb
            have mx2 : ∀ j, (wq.drewN j).cell? ⟨bm, 0, none⟩ = some (.pointer (some ⟨g, 0, none⟩)) := fun j => box_cell (Sq.out.below (below_drews _ wq j)).xm
            have hsl := same_at PQ.out LM.out Q.out Sq.out.lr PB.out LB.out
            have hsp := same_at PQ.out PQ.out Q.out Sq.out.pr PB.out PB.out
            rw [decide_eq_true (rfl : P = P)] at hsp
            have HSP := Lib.hid hsp
            clear hsp hbb
            by_cases hPL : P = L
            · rw [decide_eq_true hPL] at hsl
              have HSL := Lib.hid hsl
              have hslz := hsl 0
              rw [drew0] at hslz
              have HSLz := Lib.hid hslz
              clear hsl hPL hslz
              go_wp2_with (go_at_call 25; first | (with_reducible refine (HSLz.out).mono ?_; rintro e w' ⟨rfl, j1, rfl⟩) | (with_reducible refine (HSL.out _).mono ?_; rintro e w' ⟨rfl, j1, rfl⟩) | (with_reducible refine (HSP.out _).mono ?_; rintro e w' ⟨rfl, j1, rfl⟩))
              go_at_call 26
              clear HSL HSLz
              (try clear HSP)
              refine (mScrub (Sq.out.below (below_drews _ wq _)).M).mono ?_
              rintro e ws (⟨h, _⟩ | ⟨_, h, _⟩ | ⟨_, _, rfl, vs, hvs, hms, hss⟩)
              · exact absurd (upd_same _ _ _) h
              · omega
              rw [k2] at hms
              have hms := hms.congr (ls' := sel4 d d d []) (fun i hi => by rw [upd_same])
              have Ss := Lib.hid ((Sq.out.below (below_drews _ wq _)).step hms hss)
              have Qs := Lib.hid (hss.row (own_keep Q.out (below_drews _ wq _)) QO.out)
              obtain ⟨dn, hdn⟩ : ∃ dn, dn = dcount (upd (A4 c d 0) 3 []) (best (upd (A4 c d 0) 3 [])) 3 := ⟨_, rfl⟩
              rw [← hdn]
              clear hms hss hvs hdn Sq Q QO k1 k2 mx2
              go_wp2
              go_roundw
              case rel => exact ⟨k + 1, n + 1, vs, d, x, q, xc, P, by omega, by omega, by omega, by go_num, rfl, Ss.out.B, Ss.out.M, FD.out, DS.out, DD.out, PQ.out, hq100, PB.out, Qs.out.1, Qs.out.2, Ss.out.xm⟩
              case measure => simp [intOf]; omega
            · rw [decide_eq_false hPL] at hsl
              have HSL := Lib.hid hsl
              have hslz := hsl 0
              rw [drew0] at hslz
              have HSLz := Lib.hid hslz
              clear hsl hPL hslz
              go_wp2_with (go_at_call 25; first | (with_reducible refine (HSLz.out).mono ?_; rintro e w' ⟨rfl, j1, rfl⟩) | (with_reducible refine (HSL.out _).mono ?_; rintro e w' ⟨rfl, j1, rfl⟩) | (with_reducible refine (HSP.out _).mono ?_; rintro e w' ⟨rfl, j1, rfl⟩))
              go_at_call 26
              clear HSL HSLz
              (try clear HSP)
              refine (mScrub (Sq.out.below (below_drews _ wq _)).M).mono ?_
              rintro e ws (⟨h, _⟩ | ⟨_, h, _⟩ | ⟨_, _, rfl, vs, hvs, hms, hss⟩)
              · exact absurd (upd_same _ _ _) h
              · omega
              rw [k2] at hms
              have hms := hms.congr (ls' := sel4 d d d []) (fun i hi => by rw [upd_same])
              have Ss := Lib.hid ((Sq.out.below (below_drews _ wq _)).step hms hss)
              have Qs := Lib.hid (hss.row (own_keep Q.out (below_drews _ wq _)) QO.out)
              obtain ⟨dn, hdn⟩ : ∃ dn, dn = dcount (upd (A4 c d 0) 3 []) (best (upd (A4 c d 0) 3 [])) 3 := ⟨_, rfl⟩
              rw [← hdn]
              clear hms hss hvs hdn Sq Q QO k1 k2 mx2
              go_wp2
              go_roundw
              case rel => exact ⟨k + 1, n + 1, vs, d, x, q, xc, P, by omega, by omega, by omega, by go_num, rfl, Ss.out.B, Ss.out.M, FD.out, DS.out, DD.out, PQ.out, hq100, PB.out, Qs.out.1, Qs.out.2, Ss.out.xm⟩
              case measure => simp [intOf]; omega
      · have h12' : (12 : Int) ≤ (k : Int) := by omega
        obtain ⟨b, off, rfl, hbk, hc⟩ := (HROW.out.below' hB (Nat.le_refl _)).at hlt
        clear hB
        have hGD := mGood MM.out
        rw [gset_same FI.out.err] at hGD
        have HGD := Lib.hid hGD
        clear hGD
        go_wp2_with fail
        go_at_call 27
        refine HGD.out.mono ?_
        rintro e ws ⟨rfl, hbs⟩
        have Bs := Lib.hid (BB.out.trans (hbs.mono BB.out.size))
        clear hbs HGD
        go_wp2_with fail
        go_at_call 28
        refine (Count7 ws).mono ?_
        rintro e wt ⟨rfl, hbt⟩
        have Bt := Lib.hid (Bs.out.trans (hbt.mono Bs.out.size))
        clear hbt Bs
        go_wp2
        go_ret
        exact ⟨rfl, Bt.out⟩
    · obtain rfl : k = len1 := by omega
      clear hB
      have hGD := mGood MM.out
      rw [gset_same FI.out.err] at hGD
      have HGD := Lib.hid hGD
      clear hGD
      go_wp2_with fail
      go_at_call 27
      refine HGD.out.mono ?_
      rintro e ws ⟨rfl, hbs⟩
      have Bs := Lib.hid (BB.out.trans (hbs.mono BB.out.size))
      clear hbs HGD
      go_wp2_with fail
      go_at_call 28
      refine (Count7 ws).mono ?_
      rintro e wt ⟨rfl, hbt⟩
      have Bt := Lib.hid (Bs.out.trans (hbt.mono Bs.out.size))
      clear hbt Bs
      go_wp2
      go_ret
      exact ⟨rfl, Bt.out⟩
end Go.Proofs.Ytdlkonbjmmepoaa
