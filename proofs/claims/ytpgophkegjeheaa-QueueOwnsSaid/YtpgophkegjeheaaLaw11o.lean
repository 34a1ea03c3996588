/- QueueOwns: what was put, and what is told, is nobody else's. -/
import Derived.Test.YtpgophkegjeheaaLaw11
namespace Go.Proofs.Ytpgophkegjeheaa
open Go.RowKit Go.Own
set_option linter.unusedVariables false
set_option linter.unusedSimpArgs false
/-- m bytes lie in block b, and may be written. -/
structure Wr (w : World) (b m : Nat) : Prop where
  lt : b < w.heap.size
  cell : ∀ i, i < m → ∃ n : Nat, n < 256 ∧ w.cell? ⟨b, i, none⟩ = some (.int .u8 (n : Nat))
  fz : ∀ i, i < m → w.frozen? ⟨b, i, none⟩ = false
theorem Wr.of_own {w : World} {base m c : Nat} {a : Option Addr} {l : List Nat} (h : w.ownsRow base 5 1 (.slice a m c) m (bl l)) (hl : l.length = m) (hb : bytes l) (hm : 0 < m) : ∃ b, a = some ⟨b, 0, none⟩ ∧ base ≤ b ∧ Wr w b m := by
  have hrd := rd_of_own (f := bv l) h (fun i hi => bl_at l (by rw [hl]; exact hi))
  rcases h.2 with ⟨hv, hx⟩ | ⟨g, cap, cur, hv, hb', hg, _⟩
  · omega
  · simp only [Value.slice.injEq] at hv
    obtain ⟨rfl, _, _⟩ := hv
    refine ⟨g, rfl, hb', box_lt hg, fun i hi => ?_, fun i _ => frozen_of_row _ g i _ _ hg⟩
    obtain ⟨b, off, e, _, hc⟩ := hrd.at hi
    simp only [Option.some.injEq, Addr.mk.injEq] at e
    obtain ⟨rfl, rfl, _⟩ := e
    rw [Nat.zero_add] at hc
    exact ⟨l.getD i 0, hb.at i, hc⟩
theorem Wr.set {w : World} {b m i n : Nat} (h : Wr w b m) (hi : i < m) (hn : n < 256) : Wr (w.setCell ⟨b, i, none⟩ (.int .u8 (n : Nat))) b m := by
  refine ⟨by simpa using h.lt, fun j hj => ?_, fun j hj => by rw [World.frozen?_setCell]; exact h.fz j hj⟩
  by_cases e : i = j
  · subst e
    obtain ⟨x, _, hx⟩ := h.cell i hi
    exact ⟨n, hn, World.cell?_setCell_same _ _ _ hx⟩
  · obtain ⟨x, hx, hc⟩ := h.cell j hj
    exact ⟨x, hx, by rw [World.cell?_setCell_other _ _ _ _ (by simp [e])]; exact hc⟩
theorem Wr.same {w w' : World} {b m : Nat} (h : Wr w b m) (hk : w'.heap[b]? = w.heap[b]?) (hs : w.heap.size ≤ w'.heap.size) : Wr w' b m :=
  ⟨Nat.lt_of_lt_of_le h.lt hs, fun i hi => by
    obtain ⟨n, hn, hc⟩ := h.cell i hi
    exact ⟨n, hn, (World.cell?_of_block (a := ⟨b, i, none⟩) hk).trans hc⟩, fun i hi => (World.frozen?_of_block (a := ⟨b, i, none⟩) hk).trans (h.fz i hi)⟩
theorem QuS.other {w w' : World} {B gq g b n cnt d x : Nat} {L : List Rq} (h : QuS w B gq g b n cnt d L) (hk : Kep3 x x x w w') (h1 : gq ≠ x) (h2 : g ≠ x) (h3 : b ≠ x) (hd : ∀ r ∈ L, ∀ y, r.a = some y → y.block < w.heap.size → y.block ≠ x) : QuS w' B gq g b n cnt d L := by
  have hle := h.ring.le
  refine ⟨(hk.block gq (box_lt h.box) h1 h1 h1).trans h.box, h.ring.same (hk.block g hle.2.2.2.2.1 h2 h2 h2) (hk.block b hle.2.2.2.2.2.1 h3 h3 h3), h.ng, h.nb, h.hcnt, h.hg, h.hb, h.hq, fun r hr => ?_⟩
  have hr' := h.data r hr
  exact ⟨hr'.hs, hr'.hu, hr'.hc, hr'.ht, hr'.len, hr'.le, hr'.by_, Rd.away (n := 0) (B := 0) hr'.rd hk.size (fun y hy hlt => by
    have := hd r hr y hy hlt
    exact hk.block _ hlt this this this), hr'.lo⟩
set_option maxRecDepth 100000 in
set_option maxHeartbeats 4000000 in
theorem walk_QueueOwns (a0 : Option Addr) (len0 cap0 : Nat) (z0 : List Int) (a1 a2 : Int) (w : World) (w0 : IsRow .u8 w a0 len0 cap0 z0) (w1 : (Lit.int .u8 a1).wf = true) (w2 : (Lit.int .u8 a2).wf = true) :
    Calls Try.prog 8 #[.slice a0 len0 cap0, .int .u8 a1, .int .u8 a2] w fun e w' => e = .returned (.bool true) ∧ Below w.heap.size w w' := by
  obtain ⟨l0, hl0, hb0, hr0⟩ := isRow_rd w0
  obtain ⟨q0, q1⟩ := bounds_u8 w1
  obtain ⟨r0, r1⟩ := bounds_u8 w2
  obtain ⟨a1, rfl⟩ := Int.eq_ofNat_of_zero_le q0
  obtain ⟨a2, rfl⟩ := Int.eq_ofNat_of_zero_le r0
  obtain ⟨l, hl⟩ : ∃ l, l = l0.take 50 := ⟨_, rfl⟩
  obtain ⟨m, hm⟩ : ∃ m, m = min 50 len0 := ⟨_, rfl⟩
  have hm50 : m ≤ 50 := by omega
  have hlm : l.length = m := by rw [hl, List.length_take, hl0, hm]
  have hby : bytes l := by rw [hl]; exact fun x hx => hb0 x (List.mem_of_mem_take hx)
  have hl50 : l.take 50 = l := List.take_of_length_le (by omega)
  have hl189 : l.take 189 = l := List.take_of_length_le (by omega)
  have HL := Lib.hid hlm
  have HBY := Lib.hid hby
  have HL50 := Lib.hid hl50
  have HL189 := Lib.hid hl189
  have HL0 := Lib.hid hl0
  have HR0 := Lib.hid hr0
  have HLL := Lib.hid hl
  have HM := Lib.hid hm
  have HMM := Lib.hid (show min 50 m = m by omega)
  clear w0 w1 w2 hlm hby hl50 hl189 hl0 hr0 hl hb0 hm
  go_enter Try.func8, Try.ntmps8
  go_wp2_with fail
  go_at_call 41
  refine (awake11 _).mono ?_
  rintro e wa ⟨rfl, hba⟩
  have HBA := Lib.hid hba
  have hsa := hba.size
  clear hba
  go_wp2_with fail
  go_at_call 16
  refine (Cut_any a0 len0 cap0 l0 50 _ HL0.out (rd_grow HR0.out HBA.out) (by omega)).mono ?_
  rintro e wb ⟨v, rfl, hown, hbb⟩
  rw [← HLL.out, ← HM.out] at hown
  obtain ⟨v1, c1, rfl⟩ := own_form hown
  have HO1 := Lib.hid hown
  have HBB := Lib.hid (HBA.out.trans (hbb.mono hsa))
  have hsb : wa.heap.size ≤ wb.heap.size := hbb.size
  have hrd1 := rd_of_own (f := bv l) hown (fun i hi => bl_at l (by rw [HL.out]; exact hi))
  have HRD1 := Lib.hid hrd1
  clear hown hbb hrd1 HBA
  go_wp2_with fail
  go_at_call 16
  refine (Cut_any v1 m c1 l 50 _ HL.out HRD1.out (by omega)).mono ?_
  rintro e wc ⟨v, rfl, hown, hbc⟩
  rw [HL50.out, HMM.out] at hown
  obtain ⟨v2, c2, rfl⟩ := own_form hown
  have HO2 := Lib.hid hown
  have hsw : w.heap.size ≤ wb.heap.size := Nat.le_trans hsa hsb
  have HBC := Lib.hid (HBB.out.trans (hbc.mono hsw))
  have hsc : wb.heap.size ≤ wc.heap.size := hbc.size
  have HRC := Lib.hid (HRD1.out.below hbc)
  have hrd2 := rd_of_own (f := bv l) hown (fun i hi => bl_at l (by rw [HL.out]; exact hi))
  have HRD2 := Lib.hid hrd2
  clear hown hbc HBB hrd2
  go_wp2_with fail
  go_at_call 42
  refine (qNew_ok 3 wc (by omega) (by omega)).mono ?_
  rintro e wd ⟨gq, g, b, rfl, hq, k1, k2, k3, hbd⟩
  have HQ := Lib.hid hq
  have hsd : wc.heap.size ≤ wd.heap.size := hbd.size
  have hswc : w.heap.size ≤ wc.heap.size := HBC.out.size
  have HBD := Lib.hid (HBC.out.trans (hbd.mono hswc))
  have HRD2 := Lib.hid (rd_grow HRD2.out hbd)
  have HRC := Lib.hid (HRC.out.below (hbd.mono hsc))
  have HBCD := Lib.hid hbd
  clear hq hbd HBC
  go_wp2_with fail
  go_at_call 46
  refine (qPut_room HQ.out (Nat.le_refl _) (by decide) a1 a2 7 (by omega) (by omega) (by omega) v2 m c2 l HL.out HBY.out HRD2.out (by omega)).mono ?_
  rintro e wp ⟨rfl, r, hpi, hq, hk⟩
  have hrd : r.d = l := by rw [hpi.d, HL189.out]
  have hrt : r.t = 7 := hpi.t
  have HRT := Lib.hid hrt
  have HRDD := Lib.hid hrd
  have HQP := Lib.hid hq
  have hkb := hk.below (B := wc.heap.size) k1 k2 k3 hsd
  have hsp : wd.heap.size ≤ wp.heap.size := hk.size
  have HBP := Lib.hid (HBD.out.trans (hkb.mono hswc))
  have HRC := Lib.hid (HRC.out.below (hkb.mono hsc))
  have hown2 := own_below HO2.out (HBCD.out.trans hkb) (Nat.le_refl _)
  obtain ⟨x, hx1, hx2⟩ : ∃ x, (0 < m → v2 = some ⟨x, 0, none⟩ ∧ Wr wp x m) ∧ (wb.heap.size ≤ x ∧ x < wc.heap.size ∨ x = wp.heap.size) := by
    rcases Nat.eq_zero_or_pos m with h0 | h0
    · exact ⟨wp.heap.size, fun h => by omega, .inr rfl⟩
    · obtain ⟨x, e, hlo, hw⟩ := Wr.of_own hown2 HL.out HBY.out h0
      refine ⟨x, fun _ => ⟨e, hw⟩, .inl ⟨hlo, (HO2.out.lt x ?_).2⟩⟩
      rw [e]; rfl
  have HX1 := Lib.hid hx1
  have hqx : gq ≠ x ∧ g ≠ x ∧ b ≠ x ∧ w.heap.size ≤ x := by
    have h1 := box_lt hq.box
    have h2 := hq.ring.le.2.2.2.2
    omega
  have hdx : ∀ r' ∈ ([] ++ [r] : List Rq), ∀ y, r'.a = some y → y.block < wp.heap.size → y.block ≠ x := fun r' hr' y hy hlt => by
    have := (hq.data r' hr').lo y hy
    omega
  have HDX := Lib.hid hdx
  have hcx : ∀ w' : World, Kep3 x x x wp w' → Rd wb.heap.size w' v1 m c1 (bv l) := fun w' hk' => by
    have h := HRC.out
    refine ⟨h.le, h.top, h.nil_, fun hl => ?_⟩
    obtain ⟨bb, off, e, hbb, hc⟩ := h.row hl
    exact ⟨bb, off, e, hbb, fun i hi => (World.cell?_of_block (a := ⟨bb, off + i, none⟩) (hk'.block bb (by omega) (by omega) (by omega) (by omega))).trans (hc i hi)⟩
  have HCX := Lib.hid hcx
  clear hpi hq hk hrd hrt hkb hown2 hx1 hdx hcx HRC HRD1 HRD2 HBCD HO2 HBD HQ
  go_wp2
  go_loopw [31] (fun i wr => ∃ j : Nat, j ≤ m ∧ i = .int .i64 j ∧ Kep3 x x x wp wr ∧ (0 < m → Wr wr x m)) (fun i _ => m - (intOf i).toNat)
  case atStart => exact ⟨0, Nat.zero_le _, rfl, Kep3.refl _ _ _ _, fun h => (HX1.out h).2⟩
  case round =>
    obtain ⟨j, hj, rfl, hkx, hwr⟩ := hrel
    by_cases hlt : j < m
    · obtain ⟨e2, _⟩ := HX1.out (by omega)
      have hW := hwr (by omega)
      obtain ⟨n, hn, hc⟩ := hW.cell j hlt
      have hf := hW.fz j hlt
      subst e2
      obtain ⟨n', hn'⟩ : ∃ n', n' = (n + 1) % 256 := ⟨_, rfl⟩
      have hnI : ((n : Int) + 1) % 256 = (n' : Int) := by omega
      have hnW : IntKind.u8.wrap ((n : Int) + 1) = (n' : Int) := by rw [IntKind.wrap_u8]; omega
      have hWS := hW.set (i := j) (n := n') hlt (by omega)
      have HWS := Lib.hid hWS
      have HKX := Lib.hid (hkx.set j (.int .u8 (n' : Nat)))
      clear hW hwr hkx hWS hn'
      go_wp2
      go_roundw
      case rel => exact ⟨j + 1, by omega, by go_num, HKX.out, fun _ => HWS.out⟩
      case measure => simp [intOf]; omega
    · obtain rfl : j = m := by omega
      have HQ := Lib.hid (HQP.out.other hkx hqx.1 hqx.2.1 hqx.2.2.1 HDX.out)
      have HRC := Lib.hid (HCX.out wr hkx)
      have hbx : Below w.heap.size wp wr := ⟨hkx.os, hkx.tape, hkx.output, hkx.size, fun k hk => hkx.block k (by omega) (by omega) (by omega) (by omega)⟩
      have HB := Lib.hid (HBP.out.trans hbx)
      have hswr : wp.heap.size ≤ wr.heap.size := hkx.size
      obtain ⟨wq, rfl⟩ : ∃ wq : World, wq = wr := ⟨_, rfl⟩
      clear hwr hkx hbx HCX HDX HX1 HQP HBP
      go_wp2_with fail
      go_at_call 50
      refine (qAll HQ.out).mono ?_
      rintro e wt ⟨v, Rs, rfl, hall⟩
      obtain ⟨r', hRs, hrm⟩ : ∃ r', Rs = [r'] ∧ r'.m = r.m := by
        have h := hall.same
        match Rs, h with
        | [r'], h => exact ⟨r', rfl, by simpa using h⟩
      subst hRs
      have hrd' : r'.d = l := by
        have h := congrArg (fun t => t.2.2.2.2) hrm
        exact h.trans HRDD.out
      obtain ⟨hdl, hdo⟩ := hall.rows r' (by simp)
      have hn2 : r'.n = j := by rw [← hdl, hrd', HL.out]
      have hown := hall.own
      have hbt := hall.be
      obtain ⟨av, cv, rfl⟩ : ∃ a c, v = .slice a 1 c := by
        rcases hown.2 with ⟨rfl, h⟩ | ⟨_, _, _, rfl, _⟩
        · exact absurd h (by simp)
        · exact ⟨_, _, rfl⟩
      obtain ⟨gl, rfl, hgl0, hgl1, hra⟩ := own_range hown (l := [r']) rfl (show 0 < 1 by omega)
      have q4 : wt.cell? ⟨gl, 4, none⟩ = some (.slice r'.a r'.n r'.cp) := hra 4 _ rfl
      have hap := own_apart hdo hown (by decide)
      obtain ⟨y, hy⟩ : ∃ y, 0 < j → r'.a = some ⟨y, 0, none⟩ ∧ Wr wt y j ∧ y ≠ gl ∧ wq.heap.size ≤ y := by
        rcases Nat.eq_zero_or_pos j with h0 | h0
        · exact ⟨0, fun h => by omega⟩
        · rw [hn2] at hdo
          obtain ⟨y, e, hlo, hw⟩ := Wr.of_own hdo (by rw [hrd', HL.out]) (by rw [hrd']; exact HBY.out) h0
          refine ⟨y, fun _ => ⟨e, hw, fun h => ?_, hlo⟩⟩
          rw [e] at hap
          rcases hap with hap | hap
          · exact absurd hap (by simp [Value.ownBlock])
          · exact hap (by simp [Value.ownBlock, h])
      obtain ⟨ra, hrae⟩ : ∃ ra, ra = r'.a := ⟨_, rfl⟩
      obtain ⟨rc, hrce⟩ : ∃ rc, rc = r'.cp := ⟨_, rfl⟩
      rw [hn2, ← hrae, ← hrce] at q4
      rw [← hrae] at hy
      have HY := Lib.hid hy
      have HBT := Lib.hid hbt
      clear hall hrm hrd' hdl hdo hn2 hown hbt hgl0 hra hap hrae hrce hy
      go_wp2
      go_loopw [48] (fun i wr => ∃ j2 : Nat, j2 ≤ j ∧ i = .int .i64 j2 ∧ Below wq.heap.size wq wr ∧ wr.cell? ⟨gl, 4, none⟩ = some (.slice ra j rc) ∧ (0 < j → Wr wr y j)) (fun i _ => j - (intOf i).toNat)
      case atStart => exact ⟨0, Nat.zero_le _, rfl, HBT.out, q4, fun h => (HY.out h).2.1⟩
      case round =>
        clear q4
        obtain ⟨j2, hj2, rfl, hbr, q4, hwr⟩ := hrel
        by_cases hlt2 : j2 < j
        · obtain ⟨e2, _, hyg, hyq⟩ := HY.out (by omega)
          have hW := hwr (by omega)
          obtain ⟨n, hn, hc⟩ := hW.cell j2 hlt2
          have hf := hW.fz j2 hlt2
          subst e2
          obtain ⟨n', hn'⟩ : ∃ n', n' = (n + 2) % 256 := ⟨_, rfl⟩
          have hnI : ((n : Int) + 2) % 256 = (n' : Int) := by omega
          have hnW : IntKind.u8.wrap ((n : Int) + 2) = (n' : Int) := by rw [IntKind.wrap_u8]; omega
          have hWS := hW.set (i := j2) (n := n') hlt2 (by omega)
          have HWS := Lib.hid hWS
          have HBR := Lib.hid (hbr.setCell (p := ⟨y, j2, none⟩) hyq (.int .u8 (n' : Nat)))
          have HQ4 := Lib.hid ((World.cell?_setCell_other wr ⟨y, j2, none⟩ ⟨gl, 4, none⟩ (.int .u8 (n' : Nat)) (by simp [hyg])).trans q4)
          clear hW hwr hbr hWS hn'
          go_wp2
          go_roundw
          case rel => exact ⟨j2 + 1, by omega, by go_num, HBR.out, HQ4.out, fun _ => HWS.out⟩
          case measure => simp [intOf]; omega
        · obtain rfl : j2 = j := by omega
          have HQ2 := Lib.hid (HQ.out.below hbr (Nat.le_refl _))
          have hswq : w.heap.size ≤ wq.heap.size := HB.out.size
          have HB2 := Lib.hid (HB.out.trans (hbr.mono hswq))
          have HRC2 := Lib.hid (HRC.out.below (hbr.mono (by omega)))
          have hsr : wq.heap.size ≤ wr.heap.size := hbr.size
          clear hbr hwr q4 HQ HB HRC HY
          go_wp2_with fail
          go_at_call 45
          refine (qTake HQ2.out (by omega) 5 1 rfl).mono ?_
          rintro e wu ⟨v, rfl, hown, hqu, hku⟩
          obtain ⟨av, cv2, rfl⟩ : ∃ a c, v = .slice a 1 c := by
            rcases hown.2 with ⟨rfl, h⟩ | ⟨_, _, _, rfl, _⟩
            · exact absurd h (by decide)
            · exact ⟨_, _, rfl⟩
          obtain ⟨gt, rfl, _, _, hra⟩ := own_range hown (l := [r]) rfl (show 0 < 1 by omega)
          have hok := (HQ2.out.data r (by simp)).kep hku HQ2.out.hq HQ2.out.hg HQ2.out.hb
          have q3 : wu.cell? ⟨gt, 3, none⟩ = some (.int .u32 (r.t : Nat)) := hra 3 _ rfl
          have q4 : wu.cell? ⟨gt, 4, none⟩ = some (.slice r.a r.n r.cp) := hra 4 _ rfl
          have HRD := Lib.hid hok.rd
          have hlen := hok.len
          rw [HRDD.out] at hlen
          have HLEN := Lib.hid hlen
          have HQ3 := Lib.hid hqu
          have hkb := hku.below (B := wc.heap.size) k1 k2 k3 (by omega)
          have HB3 := Lib.hid (HB2.out.trans (hkb.mono hswc))
          have HRC3 := Lib.hid (HRC2.out.below (hkb.mono hsc))
          rw [HRT.out] at q3
          clear hown hqu hku hra hok hlen hkb HRC2 HB2 HQ2
          go_wp2_with fail
          go_at_call 21
          refine (Same_any r.a v1 r.n j2 r.cp c1 _ _ l l _ HLEN.out HL.out (by rw [← HRDD.out]; exact HRD.out) HRC3.out HBY.out HBY.out).mono ?_
          rintro e wv ⟨rfl, jv, rfl⟩
          simp only [decide_true]
          have HQ4 := Lib.hid (HQ3.out.below (below_drewsI _ _ jv) (Nat.le_refl _))
          have HB4 := Lib.hid (HB3.out.trans (below_drewsI _ wu jv))
          go_wp2_with fail
          go_at_call 47
          refine (qLen HQ4.out).mono ?_
          rintro e w' ⟨rfl, rfl⟩
          go_wp2
          go_ret
          exact ⟨rfl, HB4.out⟩
end Go.Proofs.Ytpgophkegjeheaa
