/- TurnHolds: the chain that is active is the old one, or the new one. -/
import Derived.Test.YtboojcahflkkmaaLaw20a
namespace Go.Proofs.Ytboojcahflkkmaa
open Go.RowKit Go.Own Bs
set_option linter.unusedVariables false
set_option linter.unusedSimpArgs false
/-- Where the law stands behind a cycle: the turn, its next, the step. -/
structure HoE (w wr : World) (g5 g6 g11 g19 g20 : Nat) (f t : Nat → Int) (p P : Int) (F T : Nat → Int) (ya : Option Addr) (yl yc : Nat) (d : Bool) (q : Nat) (l : List Nat) : Prop where
  st : AgSt w wr g5 g6 g6 g11 f t t p f
  b19 : wr.heap[g19]? = some (.cells #[.int .u8 P, .int .i8 (F 0), .int .i8 (F 1), .int .i8 (F 2), .int .i8 (F 3), .int .i8 (F 4), .int .i8 (F 5), .int .i8 (T 0), .int .i8 (T 1), .int .i8 (T 2), .int .i8 (T 3), .int .i8 (T 4), .int .i8 (T 5)] 96 (0, 0))
  b20 : wr.heap[g20]? = some (.cells #[.slice none 0 0, .slice ya yl yc, .bool d, .int .u16 ((q : Nat) : Int)] 98 (0, 0))
  rd : Rd wr.heap.size wr ya yl yc (zv l)
theorem HoE.step {w wr w' : World} {g5 g6 g11 g19 g20 : Nat} {f t : Nat → Int} {p P : Int} {F T : Nat → Int} {ya : Option Addr} {yl yc : Nat} {d : Bool} {q : Nat} {l : List Nat} (h : HoE w wr g5 g6 g11 g19 g20 f t p P F T ya yl yc d q l) (hb : Below wr.heap.size wr w') : HoE w w' g5 g6 g11 g19 g20 f t p P F T ya yl yc d q l :=
  ⟨h.st.step hb, box_below h.b19 hb (box_lt h.b19), box_below h.b20 hb (box_lt h.b20), (h.rd.below hb).mono hb.size⟩
theorem and_less {a b : Nat} (ha : a < 65536) : lessS (a &&& b) a = 0 := by
  have h1 : a &&& b < 65536 := Nat.lt_of_le_of_lt Nat.and_le_left ha
  rw [← less_sub h1 ha]
  have e : a &&& b &&& a = a &&& b := by rw [Nat.and_comm (a &&& b) a, ← Nat.and_assoc, Nat.and_self]
  rw [e, Nat.sub_self]
set_option maxRecDepth 100000 in
set_option maxHeartbeats 8000000 in
theorem walk_TurnHolds (z0 z1 : List Int) (a2 : Int) (a3 : Option Addr) (len3 cap3 : Nat) (z3 : List Int) (a4 : Option Addr) (len4 cap4 : Nat) (z4 : List Int) (w : World) (l0 : z0.length = 6) (w0 : ∀ x ∈ z0, (Lit.int .i8 x).wf = true) (l1 : z1.length = 6) (w1 : ∀ x ∈ z1, (Lit.int .i8 x).wf = true) (w2 : (Lit.int .u16 a2).wf = true) (w3 : IsRow .u16 w a3 len3 cap3 z3) (w4 : IsRow .u16 w a4 len4 cap4 z4) :
    Calls Try.prog 10 #[.agg (z0.map (Value.int .i8)).toArray, .agg (z1.map (Value.int .i8)).toArray, .int .u16 a2, .slice a3 len3 cap3, .slice a4 len4 cap4] w fun e w' => e = .returned (.bool true) ∧ Below w.heap.size w w' := by
  obtain ⟨f, hf, e0⟩ := ch_of l0 w0
  obtain ⟨t, ht, e1⟩ := ch_of l1 w1
  rw [e0, e1]
  clear e0 e1 l0 w0 l1 w1
  obtain ⟨r0, r1⟩ := bounds_u16 w2
  obtain ⟨pw, rfl⟩ := Int.eq_ofNat_of_zero_le r0
  have hpw : pw < 65536 := by omega
  obtain ⟨wl, hwl, hwlb, hrw⟩ := isRow_u16 w3
  obtain ⟨ll, hll, hllb, hrl⟩ := isRow_u16 w4
  have hle3 := hrw.le
  have htop3 := hrw.top
  have hle4 := hrl.le
  have htop4 := hrl.top
  unfold maxLen at htop3 htop4
  have HC := Lib.hid (And.intro hf ht)
  have HRW := Lib.hid (show _ ∧ _ ∧ _ from ⟨hrw, hwl, hwlb⟩)
  have HRL := Lib.hid (show _ ∧ _ ∧ _ from ⟨hrl, hll, hllb⟩)
  clear w2 w3 w4 hf ht r0 r1 hwl hwlb hrw hll hllb hrl
  have hzt := zero_tn
  have hzs := zero_st
  obtain ⟨h5, h6⟩ := al2T w (.cells #[.int .i8 (f 0), .int .i8 (f 1), .int .i8 (f 2), .int .i8 (f 3), .int .i8 (f 4), .int .i8 (f 5)] 67) (.cells #[.int .i8 (t 0), .int .i8 (t 1), .int .i8 (t 2), .int .i8 (t 3), .int .i8 (t 4), .int .i8 (t 5)] 67)
  have hb0 : Below w.heap.size w ((w.alloc (.cells #[.int .i8 (f 0), .int .i8 (f 1), .int .i8 (f 2), .int .i8 (f 3), .int .i8 (f 4), .int .i8 (f 5)] 67)).alloc (.cells #[.int .i8 (t 0), .int .i8 (t 1), .int .i8 (t 2), .int .i8 (t 3), .int .i8 (t 4), .int .i8 (t 5)] 67)) := by repeat' (first | (with_reducible exact Below.refl _ _) | (with_reducible assumption) | (with_reducible refine Below.setCell ?_ ?_ _) | (with_reducible refine Below.alloc ?_ ?_ _) | (with_reducible refine Below.drew ?_) | (with_reducible refine Below.drawsN ?_ _) | go_size)
  go_enter Try.func10, Try.ntmps10
  go_upto_region 1 with fail
  obtain ⟨wa, hwa⟩ : ∃ w1, w1 = (w.alloc (.cells #[.int .i8 (f 0), .int .i8 (f 1), .int .i8 (f 2), .int .i8 (f 3), .int .i8 (f 4), .int .i8 (f 5)] 67)).alloc (.cells #[.int .i8 (t 0), .int .i8 (t 1), .int .i8 (t 2), .int .i8 (t 3), .int .i8 (t 4), .int .i8 (t 5)] 67) := ⟨_, rfl⟩
  rw [← hwa] at h5 h6 hb0 ⊢
  obtain ⟨g6, hg6⟩ : ∃ g, g = w.heap.size + 1 := ⟨_, rfl⟩
  rw [← hg6] at h6 ⊢
  obtain ⟨g5, hg5⟩ : ∃ g, g = w.heap.size := ⟨_, rfl⟩
  rw [show (Value.pointer (some ⟨w.heap.size, 0, none⟩)) = .pointer (some ⟨g5, 0, none⟩) by rw [hg5]]
  rw [← hg5] at h5
  have HB0 := Lib.hid hb0
  have H5 := Lib.hid (And.intro h5 h6)
  clear hwa hg5 hg6 hb0 h5 h6
  go_wp2_with fail
  go_at_call 46
  refine (awake20 _).mono ?_
  rintro e wb ⟨rfl, hb⟩
  have HB1 := Lib.hid (HB0.out.trans (hb.mono HB0.out.size))
  have b5 := box_below H5.out.1 hb (box_lt H5.out.1)
  have b6 := box_below H5.out.2 hb (box_lt H5.out.2)
  clear hb HB0 H5
  have HST := Lib.hid (fun w => Start_idle f f t pw w HC.out.2 hpw)
  go_wp2_with (first | ((with_reducible show wpList _ _ _ (_ :: _) _ _); refine wpList_load_row rfl 67 _ rfl _ rfl _ _ _ _ b5 Try.underlying67 rfl (by exact size_ch) ?_; (try go_simp)) | ((with_reducible show wpList _ _ _ (_ :: _) _ _); refine wpList_load_row rfl 67 _ rfl _ rfl _ _ _ _ b6 Try.underlying67 rfl (by exact size_ch) ?_; (try go_simp)))
  go_at_call 54
  refine (HST.out _).mono ?_
  rintro e wc ⟨v, rfl, hown, hb⟩
  obtain ⟨va, vc, rfl⟩ := own_formZ hown
  obtain ⟨vl, hvl⟩ : ∃ vl, vl = (upTo (lessS (unitsS t 6) pw) 16).length := ⟨_, rfl⟩
  rw [← hvl]
  skip
  obtain ⟨q1, q2, q3, q4, q5⟩ := pairBox wc #[.int .u8 1, .int .i8 (f 0), .int .i8 (f 1), .int .i8 (f 2), .int .i8 (f 3), .int .i8 (f 4), .int .i8 (f 5), .int .i8 (t 0), .int .i8 (t 1), .int .i8 (t 2), .int .i8 (t 3), .int .i8 (t 4), .int .i8 (t 5)] #[.slice va vl vc, .slice none 0 0, .bool false, .int .u16 0]
  obtain ⟨wA, hwA⟩ : ∃ x, (wc.alloc (.cells #[.int .u8 0, .int .i8 0, .int .i8 0, .int .i8 0, .int .i8 0, .int .i8 0, .int .i8 0, .int .i8 0, .int .i8 0, .int .i8 0, .int .i8 0, .int .i8 0, .int .i8 0] 96)).alloc (.cells #[.slice none 0 0, .slice none 0 0, .bool false, .int .u16 0] 98) = x := ⟨_, rfl⟩
  rw [hwA] at q1 q2 q3 q4 q5
  obtain ⟨wB, hwB⟩ : ∃ x, wA.setRow wc.heap.size #[.int .u8 1, .int .i8 (f 0), .int .i8 (f 1), .int .i8 (f 2), .int .i8 (f 3), .int .i8 (f 4), .int .i8 (f 5), .int .i8 (t 0), .int .i8 (t 1), .int .i8 (t 2), .int .i8 (t 3), .int .i8 (t 4), .int .i8 (t 5)] = x := ⟨_, rfl⟩
  rw [hwB] at q2 q3 q4 q5
  obtain ⟨wC, hwC⟩ : ∃ x, wB.setRow (wc.heap.size + 1) #[.slice va vl vc, .slice none 0 0, .bool false, .int .u16 0] = x := ⟨_, rfl⟩
  rw [hwC] at q3 q4 q5
  have hbc := HB1.out.trans (hb.mono HB1.out.size)
  have c5 := box_below b5 hb (box_lt b5)
  have c6 := box_below b6 hb (box_lt b6)
  have HS := Lib.hid (show AgSt w wC g5 g6 g6 wc.heap.size f t t 1 f from ⟨hbc.trans (q5.mono hbc.size), box_below c5 q5 (box_lt c5), box_below c6 q5 (box_lt c6), box_below c6 q5 (box_lt c6), q3, hbc.size, Nat.ne_of_lt (box_lt c5), Nat.ne_of_lt (box_lt c6), Nat.ne_of_lt (box_lt c6)⟩)
  clear hvl hown hb b5 b6 HST HB1 q3 q4 q5 hbc c5 c6
  go_upto_region 4 with (first | ((with_reducible show wpList _ _ _ (_ :: _) _ _); (try rw [hwA]); refine wpList_store_row rfl 96 _ _ rfl _ _ rfl rfl _ _ q1 (by exact size_tn) (by rfl) (by simp [Value.oneCell']) ?_; rw [hwB]) | ((with_reducible show wpList _ _ _ (_ :: _) _ _); refine wpList_store_row rfl 98 _ _ rfl _ _ rfl rfl _ _ q2 (by exact size_st) (by rfl) (by simp [Value.oneCell']) ?_; rw [hwC]))
  clear hwA hwB hwC q1 q2
  obtain ⟨g11, hg11⟩ : ∃ g, g = wc.heap.size := ⟨_, rfl⟩
  rw [← hg11] at HS
  rw [show (Value.pointer (some ⟨wc.heap.size, 0, none⟩)) = .pointer (some ⟨g11, 0, none⟩) by rw [hg11]]
  clear hg11
  obtain ⟨u, hu⟩ : ∃ u, u = unitsS t 6 := ⟨_, rfl⟩
  have hu1 : u < 65536 := by rw [hu]; exact unitsS_lt t 6
  obtain ⟨uf, huf⟩ : ∃ uf, uf = unitsS f 6 := ⟨_, rfl⟩
  have huf1 : uf < 65536 := by rw [huf]; exact unitsS_lt f 6
  have HU := Lib.hid (And.intro hu huf)
  clear hu huf
  go_wp2_with fail
  go_loopw [14, 37] (fun v14 v37 wr => ∃ (k : Nat) (p : Int), k ≤ len3 ∧ v37 = .int .i64 (k : Nat) ∧ (p = 1 ∨ p = 2 ∨ p = 3) ∧ v14 = .bool (p != 1) ∧ AgSt w wr g5 g6 g6 g11 f t t p f) (fun _ v37 _ => len3 - (intOf v37).toNat)
  case atStart => exact ⟨0, 1, Nat.zero_le _, rfl, .inl rfl, rfl, HS.out⟩
  case round =>
    clear HS
    obtain ⟨k, p, hk, rfl, hp, rfl, hS⟩ := hrel
    have HS := Lib.hid hS
    clear hS
    by_cases hlt : k < len3
    · by_cases h40 : 40 ≤ k
      · go_wp2_with fail
        go_ret
        exact ⟨rfl, HS.out.be⟩
      · obtain ⟨bb, off, rfl, hbb, hcx⟩ := HRW.out.1.at hlt
        have hcx := (HS.out.be.cell (p := ⟨bb, off + k, none⟩) hbb).trans hcx
        unfold sv at hcx
        have hwv : wl.getD k 0 < 65536 := HRW.out.2.2 _ (by
          have := HRW.out.2.1
          unfold List.getD
          rw [List.getElem?_eq_getElem (show k < wl.length by omega)]
          exact List.getElem_mem _)
        obtain ⟨wv, hwve⟩ : ∃ y, y = wl.getD k 0 := ⟨_, rfl⟩
        rw [← hwve] at hcx hwv
        clear hwve
        obtain ⟨lv, hlve⟩ : ∃ y, y = (if k < len4 then ll.getD k 0 else 0) := ⟨_, rfl⟩
        have hlv : lv < 65536 := by
          rw [hlve]
          split
          · rename_i h4
            exact HRL.out.2.2 _ (by
              have := HRL.out.2.1
              unfold List.getD
              rw [List.getElem?_eq_getElem (show k < ll.length by omega)]
              exact List.getElem_mem _)
          · decide
        have HLV := Lib.hid hlve
        clear hlve
        go_upto_if 49 with fail
        clear hcx
        go_cut [17] (fun v wx => v = .int .u16 (lv : Nat) ∧ wx = wr)
        case first =>
          by_cases h4 : k < len4
          · obtain ⟨bb, off, rfl, hbb, hcx⟩ := HRL.out.1.at h4
            have hcx := (HS.out.be.cell (p := ⟨bb, off + k, none⟩) hbb).trans hcx
            unfold sv at hcx
            rw [show ll.getD k 0 = lv by rw [HLV.out, if_pos h4]] at hcx
            go_wp2
            go_meet
            case rel => exact ⟨rfl, rfl⟩
          · rw [if_neg h4] at HLV
            go_wp2
            go_meet
            case rel => exact ⟨by rw [HLV.out]; rfl, rfl⟩
        case rest =>
          obtain ⟨rfl, hwq⟩ := hcut
          obtain ⟨wr, hwr⟩ : ∃ wr, wr = wc := ⟨_, rfl⟩
          rw [← hwr] at hwq ⊢
          rw [← hwq] at HS
          clear hwr hwq
          by_cases hp1 : p = 1
          · have q1 : (p == 1) = true := by simp [hp1]
            have q1' : (p != 1) = false := by simp [hp1]
            obtain ⟨q, hq⟩ : ∃ q, q = u &&& lv := ⟨_, rfl⟩
            have hql : q < 65536 := by rw [hq]; exact Nat.lt_of_le_of_lt Nat.and_le_left hu1
            have hnx : nxtR p f t wv lv = if q = 0 then (if lessS u wv = 0 then ⟨2, f, t, 0, false, 0⟩ else ⟨1, f, t, 0, false, 0⟩) else ⟨0, f, f, onlyS t f, false, q⟩ := by
              rw [hp1, hq, HU.out.1]
              rfl
            rw [q1']
            have HQ := Lib.hid hq
            have HNX := Lib.hid hnx
            have HP := Lib.hid hp1
            clear hq hnx hp1 q1' hp
            by_cases hq0 : q = 0
            · by_cases hl0 : lessS u wv = 0
              · have HN := Lib.hid (HNX.out.trans ((if_pos hq0).trans (if_pos hl0)))
                clear HNX
                --[B
                skip
                have b11 := HS.out.b11
                have hal : Below wr.heap.size wr (wr.alloc (.cells #[.int .u8 p, .int .i8 (f 0), .int .i8 (f 1), .int .i8 (f 2), .int .i8 (f 3), .int .i8 (f 4), .int .i8 (f 5), .int .i8 (t 0), .int .i8 (t 1), .int .i8 (t 2), .int .i8 (t 3), .int .i8 (t 4), .int .i8 (t 5)] 96)) := by repeat' (first | (with_reducible exact Below.refl _ _) | (with_reducible assumption) | (with_reducible refine Below.setCell ?_ ?_ _) | (with_reducible refine Below.alloc ?_ ?_ _) | (with_reducible refine Below.drew ?_) | (with_reducible refine Below.drawsN ?_ _) | go_size)
                have h18 := heap_alloc_new wr (.cells #[.int .u8 p, .int .i8 (f 0), .int .i8 (f 1), .int .i8 (f 2), .int .i8 (f 3), .int .i8 (f 4), .int .i8 (f 5), .int .i8 (t 0), .int .i8 (t 1), .int .i8 (t 2), .int .i8 (t 3), .int .i8 (t 4), .int .i8 (t 5)] 96)
                obtain ⟨w1, hw1⟩ : ∃ w1, wr.alloc (.cells #[.int .u8 p, .int .i8 (f 0), .int .i8 (f 1), .int .i8 (f 2), .int .i8 (f 3), .int .i8 (f 4), .int .i8 (f 5), .int .i8 (t 0), .int .i8 (t 1), .int .i8 (t 2), .int .i8 (t 3), .int .i8 (t 4), .int .i8 (t 5)] 96) = w1 := ⟨_, rfl⟩
                rw [hw1] at h18 hal
                have HS1 := Lib.hid (HS.out.step hal)
                clear HS hal
                go_upto_region 15 with (first | ((with_reducible show wpList _ _ _ (_ :: _) _ _); refine wpList_load_row rfl 96 _ rfl _ rfl _ _ _ _ b11 Try.underlying96 rfl (by exact size_tn) ?_; (try go_simp)) | ((with_reducible show wpList _ _ _ (_ :: _) _ _); refine wpList_store_row rfl 96 _ _ rfl _ _ rfl rfl _ _ (heap_alloc_new _ _) (by exact size_tn) (by rfl) (by simp [Value.oneCell']) ?_; rw [World.setRow_alloc_new, hw1]))
                clear hw1 b11
                obtain ⟨g18, hg18⟩ : ∃ g, g = wr.heap.size := ⟨_, rfl⟩
                rw [← hg18] at h18 ⊢
                clear hg18
                have b11 := HS1.out.b11
                go_wp2_with (((with_reducible show wpList _ _ _ (_ :: _) _ _); refine wpList_load_row rfl 96 _ rfl _ rfl _ _ _ _ b11 Try.underlying96 rfl (by exact size_tn) ?_; (try go_simp)))
                go_at_call 47
                refine (Next_det _ HC.out.1 HC.out.2 hwv hlv HN.out).mono ?_
                rintro e w2 ⟨v, rfl, hown, hb⟩
                obtain ⟨ya, yc, rfl⟩ := own_formZ hown
                obtain ⟨yl, hyl⟩ : ∃ yl, yl = (upTo 0 16).length := ⟨_, rfl⟩
                rw [← hyl] at hown ⊢
                have hrd := rd_of_own (f := zv (upTo 0 16)) hown (fun i hi => zl_zv (upTo 0 16) i (by omega))
                skip
                obtain ⟨q1, q2, q3, q4, q5⟩ := pairBox w2 #[.int .u8 2, .int .i8 (f 0), .int .i8 (f 1), .int .i8 (f 2), .int .i8 (f 3), .int .i8 (f 4), .int .i8 (f 5), .int .i8 (t 0), .int .i8 (t 1), .int .i8 (t 2), .int .i8 (t 3), .int .i8 (t 4), .int .i8 (t 5)] #[.slice none 0 0, .slice ya yl yc, .bool false, .int .u16 0]
                obtain ⟨wA, hwA⟩ : ∃ x, (w2.alloc (.cells #[.int .u8 0, .int .i8 0, .int .i8 0, .int .i8 0, .int .i8 0, .int .i8 0, .int .i8 0, .int .i8 0, .int .i8 0, .int .i8 0, .int .i8 0, .int .i8 0, .int .i8 0] 96)).alloc (.cells #[.slice none 0 0, .slice none 0 0, .bool false, .int .u16 0] 98) = x := ⟨_, rfl⟩
                rw [hwA] at q1 q2 q3 q4 q5
                obtain ⟨wB, hwB⟩ : ∃ x, wA.setRow w2.heap.size #[.int .u8 2, .int .i8 (f 0), .int .i8 (f 1), .int .i8 (f 2), .int .i8 (f 3), .int .i8 (f 4), .int .i8 (f 5), .int .i8 (t 0), .int .i8 (t 1), .int .i8 (t 2), .int .i8 (t 3), .int .i8 (t 4), .int .i8 (t 5)] = x := ⟨_, rfl⟩
                rw [hwB] at q2 q3 q4 q5
                obtain ⟨wC, hwC⟩ : ∃ x, wB.setRow (w2.heap.size + 1) #[.slice none 0 0, .slice ya yl yc, .bool false, .int .u16 0] = x := ⟨_, rfl⟩
                rw [hwC] at q3 q4 q5
                have h182 := box_below (box_below h18 hb (box_lt h18)) q5 (box_lt (box_below h18 hb (box_lt h18)))
                have HE := Lib.hid (show HoE w wC g5 g6 g11 w2.heap.size (w2.heap.size + 1) f t p 2 f t ya yl yc false 0 (upTo 0 16) from ⟨(HS1.out.step hb).step q5, q3, q4, (hrd.below q5).mono q5.size⟩)
                have HYL := Lib.hid hyl
                clear hown hb hyl hrd HS1 q3 q4 q5 b11 h18
                go_upto_region 16 with (first | ((with_reducible show wpList _ _ _ (_ :: _) _ _); (try rw [hwA]); refine wpList_store_row rfl 96 _ _ rfl _ _ rfl rfl _ _ q1 (by exact size_tn) (by rfl) (by simp [Value.oneCell']) ?_; rw [hwB]) | ((with_reducible show wpList _ _ _ (_ :: _) _ _); refine wpList_store_row rfl 98 _ _ rfl _ _ rfl rfl _ _ q2 (by exact size_st) (by rfl) (by simp [Value.oneCell']) ?_; rw [hwC]))
                clear hwA hwB hwC q1 q2
                obtain ⟨g20, hg20⟩ : ∃ g, g = w2.heap.size + 1 := ⟨_, rfl⟩
                rw [← hg20] at HE ⊢
                obtain ⟨g19, hg19⟩ : ∃ g, g = w2.heap.size := ⟨_, rfl⟩
                rw [← hg19] at HE ⊢
                clear hg19 hg20
                have c18 := ldTp h182
                clear h182
                skip
                simp only [Act.put]
                go_cut [77] (fun v wx => v = .bool true ∧ HoE w wx g5 g6 g11 g19 g20 f t p 2 f t ya yl yc false 0 (upTo 0 16))
                case first =>
                  skip
                  have b6 := HE.out.st.b6
                  go_wp2_with ((refine wpLoadGT (by (first | exact Go.Mix.wanted_none rfl | exact Go.Mix.wanted_tt rfl rfl rfl | exact Go.Mix.wanted_ff rfl rfl rfl)) 67 _ rfl _ rfl _ _ _ _ b6 Try.underlying67 rfl (by exact size_ch) ?_; (try go_simp)))
                  go_at_call 34
                  refine (Units_any t _ HC.out.2).mono ?_
                  rintro e w3 ⟨rfl, hb⟩
                  rw [← HU.out.1]
                  have HE1 := Lib.hid (HE.out.step hb)
                  clear hb HE b6
                  have HE := HE1
                  clear HE1
                  go_wp2_with fail
                  go_at_call 57
                  refine (Within_any u wv _ hu1 hwv).mono ?_
                  rintro e w4 ⟨rfl, rfl⟩
                  by_cases hlw : lessS u wv = 0
                  · rw [decide_eq_true hlw]
                    have hq9 : ((q : Int) == 0) = true := (by simp [hq0])
                    skip
                    have b6 := HE.out.st.b6
                    go_wp2_with ((refine wpLoadGT (by (first | exact Go.Mix.wanted_none rfl | exact Go.Mix.wanted_tt rfl rfl rfl | exact Go.Mix.wanted_ff rfl rfl rfl)) 67 _ rfl _ rfl _ _ _ _ b6 Try.underlying67 rfl (by exact size_ch) ?_; (try go_simp)))
                    go_at_call 34
                    refine (Units_any t _ HC.out.2).mono ?_
                    rintro e w3 ⟨rfl, hb⟩
                    rw [← HU.out.1]
                    have HE1 := Lib.hid (HE.out.step hb)
                    clear hb HE b6
                    have HE := HE1
                    clear HE1
                    go_wp2_with fail
                    go_at_call 35
                    refine (And_any u lv _ hu1 hlv).mono ?_
                    rintro e w4 ⟨rfl, rfl⟩
                    rw [← HQ.out]
                    go_wp2
                    go_meet
                    case rel => exact ⟨by first | (simp [hlw]; done) | exact absurd hlw hl0 | exact absurd hl0 hlw, HE.out⟩
                  · rw [decide_eq_false hlw]
                    go_wp2
                    go_meet
                    case rel => exact ⟨by first | (simp [hlw]; done) | exact absurd hlw hl0 | exact absurd hl0 hlw, HE.out⟩
                case rest =>
                  obtain ⟨rfl, hE⟩ := hcut
                  obtain ⟨wr2, hwr2⟩ : ∃ wr2, wr2 = wc := ⟨_, rfl⟩
                  rw [← hwr2] at hE ⊢
                  have HE := Lib.hid hE
                  clear hE hwr2 c18
                  skip
                  skip
                  go_upto_region 18 with fail
                  go_cut [102] (fun v wx => v = .bool false ∧ HoE w wx g5 g6 g11 g19 g20 f t p 2 f t ya yl yc false 0 (upTo 0 16))
                  case first =>
                    have b5 := HE.out.st.b5
                    have b6 := HE.out.st.b6
                    have b19 := HE.out.b19
                    have l5 := box_lt b5
                    have l6 := box_lt b6
                    have l19 := box_lt b19
                    have hact : actC 2 f t = f := rfl
                    cases hs1 : sameC f t with
                    | true =>
                      have hs2 : sameC t f = true := by rw [sameC_iff] at hs1 ⊢; exact hs1.symm
                      skip
                      obtain ⟨I, W, hne, hWI, hIW⟩ := Go.Mix.family (fun v => Below wr2.heap.size wr2 v) (Below.refl _ _)
                      have HJ := Lib.hid hIW
                      have HW := Lib.hid hWI
                      clear hWI hIW
                      refine Go.Flo.wp_region (fun w' => ∃ i, w' = W i) 25 [Go.Flo.Spec.is (.agg #[.int .i8 (f 0), .int .i8 (f 1), .int .i8 (f 2), .int .i8 (f 3), .int .i8 (f 4), .int .i8 (f 5)]), Go.Flo.Spec.is (.agg #[.int .i8 (f 0), .int .i8 (f 1), .int .i8 (f 2), .int .i8 (f 3), .int .i8 (f 4), .int .i8 (f 5)]), Go.Flo.Spec.is (.agg #[.int .i8 (f 0), .int .i8 (f 1), .int .i8 (f 2), .int .i8 (f 3), .int .i8 (f 4), .int .i8 (f 5)])] (by kernel_rfl) (by kernel_rfl) (by decide) (by rintro _ w' ⟨i, rfl⟩ hb; exact HJ.out _ ((HW.out i).trans (hb.mono (HW.out i).size))) (HJ.out _ (Below.refl _ _).drew) ?_
                      simp only [Go.Flo.pair, Go.Mix.calm, List.take, List.drop, if_true, Bool.false_eq_true, if_false, Nat.reduceAdd, Nat.reduceSub]
                      have he1 : ∀ w, (binOp .neq 67 (.agg #[.int .i8 (f 0), .int .i8 (f 1), .int .i8 (f 2), .int .i8 (f 3), .int .i8 (f 4), .int .i8 (f 5)]) (.agg #[.int .i8 (f 0), .int .i8 (f 1), .int .i8 (f 2), .int .i8 (f 3), .int .i8 (f 4), .int .i8 (f 5)])).run Try.prog w = .ok (.bool (!sameC f f)) w := fun w => neqCh HC.out.1 HC.out.1 w
                      have he2 : ∀ w, (binOp .neq 67 (.agg #[.int .i8 (f 0), .int .i8 (f 1), .int .i8 (f 2), .int .i8 (f 3), .int .i8 (f 4), .int .i8 (f 5)]) (.agg #[.int .i8 (t 0), .int .i8 (t 1), .int .i8 (t 2), .int .i8 (t 3), .int .i8 (t 4), .int .i8 (t 5)])).run Try.prog w = .ok (.bool (!sameC f t)) w := fun w => neqCh HC.out.1 HC.out.2 w
                      have he3 : ∀ w, (binOp .eql 67 (.agg #[.int .i8 (f 0), .int .i8 (f 1), .int .i8 (f 2), .int .i8 (f 3), .int .i8 (f 4), .int .i8 (f 5)]) (.agg #[.int .i8 (t 0), .int .i8 (t 1), .int .i8 (t 2), .int .i8 (t 3), .int .i8 (t 4), .int .i8 (t 5)])).run Try.prog w = .ok (.bool (sameC f t)) w := fun w => eqlCh HC.out.1 HC.out.2 w
                      have he4 : ∀ w, (binOp .neq 67 (.agg #[.int .i8 (f 0), .int .i8 (f 1), .int .i8 (f 2), .int .i8 (f 3), .int .i8 (f 4), .int .i8 (f 5)]) (.agg #[.int .i8 (t 0), .int .i8 (t 1), .int .i8 (t 2), .int .i8 (t 3), .int .i8 (t 4), .int .i8 (t 5)])).run Try.prog w = .ok (.bool (!sameC f t)) w := fun w => neqCh HC.out.1 HC.out.2 w
                      simp only [sameC_refl, hs1, hs2, Bool.not_true, Bool.not_false] at he1 he2 he3 he4
                      repeat (first | (refine Go.Flo.fw_calm rfl ?_ (fun K hK => ?_); (first | exact Go.Mix.wanted_none rfl | exact Go.Mix.wanted_tt rfl rfl rfl | exact Go.Mix.wanted_ff rfl rfl rfl); refine Go.Flo.quiet_load_row 96 _ rfl _ rfl _ #[.int .u8 2, .int .i8 (f 0), .int .i8 (f 1), .int .i8 (f 2), .int .i8 (f 3), .int .i8 (f 4), .int .i8 (f 5), .int .i8 (t 0), .int .i8 (t 1), .int .i8 (t 2), .int .i8 (t 3), .int .i8 (t 4), .int .i8 (t 5)] _ (by rintro _ ⟨i, rfl⟩; exact ((HW.out i).block _ l19).trans b19) Try.underlying96 rfl size_tn ?_; go_simp; refine hK _ ?_; clear hK K) | (refine Go.Flo.fw_calm rfl ?_ (fun K hK => ?_); (first | exact Go.Mix.wanted_none rfl | exact Go.Mix.wanted_tt rfl rfl rfl | exact Go.Mix.wanted_ff rfl rfl rfl); refine Go.Flo.quiet_load_row 67 _ rfl _ rfl _ #[.int .i8 (f 0), .int .i8 (f 1), .int .i8 (f 2), .int .i8 (f 3), .int .i8 (f 4), .int .i8 (f 5)] _ (by rintro _ ⟨i, rfl⟩; exact ((HW.out i).block _ l5).trans b5) Try.underlying67 rfl size_ch ?_; go_simp; refine hK _ ?_; clear hK K) | (refine Go.Flo.fw_calm rfl ?_ (fun K hK => ?_); (first | exact Go.Mix.wanted_none rfl | exact Go.Mix.wanted_tt rfl rfl rfl | exact Go.Mix.wanted_ff rfl rfl rfl); refine Go.Flo.quiet_load_row 67 _ rfl _ rfl _ #[.int .i8 (t 0), .int .i8 (t 1), .int .i8 (t 2), .int .i8 (t 3), .int .i8 (t 4), .int .i8 (t 5)] _ (by rintro _ ⟨i, rfl⟩; exact ((HW.out i).block _ l6).trans b6) Try.underlying67 rfl size_ch ?_; go_simp; refine hK _ ?_; clear hK K) | (refine Go.Flo.fw_loud rfl ?_ rfl (by simp) (fun wv hwv hav K hK => ?_) (fun v hv K hK => ?_); (· (first | exact Go.Mix.wanted_none rfl | exact Go.Mix.wanted_tt rfl rfl rfl | exact Go.Mix.wanted_ff rfl rfl rfl)); (· obtain ⟨iv, rfl⟩ := hwv; have hbv := HW.out iv; (first | go_big_op | go_simp); go_at_call 51; refine (Active_any 2 f t _).mono ?_; rintro e w' ⟨rfl, hb⟩; rw [hact]; exact hK _ _ (Go.Flo.owes_is _ rfl hb)); (obtain rfl := hv.is; go_simp; refine hK _ ?_; clear hK K hv)) | (first | (refine Go.Flo.fw_calm rfl ?_ (fun K hK => ?_); (first | exact Go.Mix.wanted_none rfl | exact Go.Mix.wanted_tt rfl rfl rfl | exact Go.Mix.wanted_ff rfl rfl rfl); go_big_quiet_op; refine hK _ ?_; clear hK K) | (refine Go.Flo.fw_skip ?_ (fun K hK => ?_); (first | exact Go.Mix.wanted_tf rfl rfl rfl | exact Go.Mix.wanted_ft rfl rfl rfl); go_simp; refine hK _ ?_; clear hK K) | (refine Go.Flo.fw_any rfl ?_ (fun K hK => ?_); (first | exact Go.Mix.wanted_none rfl | exact Go.Mix.wanted_tt rfl rfl rfl | exact Go.Mix.wanted_ff rfl rfl rfl); go_simp; (try (go_ints; try go_simp)); refine hK _ ?_; clear hK K)))
                      refine Go.Flo.fw_nil ?_
                      intro we hwwe hfwe huwe
                      refine Go.Flo.tw_nil ?_
                      obtain ⟨iend, hiend⟩ := hwwe
                      have hbwe := HW.out iend
                      rw [← hiend] at hbwe
                      clear hiend iend huwe
                      have HE1 := Lib.hid (HE.out.step hbwe)
                      clear hfwe HJ HW hne hbwe b5 b6 b19 l5 l6 l19 he1 he2 he3 he4 HE
                      clear W I
                      go_wp2
                      go_meet
                      case rel => exact ⟨rfl, HE1.out⟩
                    | false =>
                      have hs2 : sameC t f = false := by
                        cases h : sameC t f with
                        | false => rfl
                        | true => rw [sameC_iff] at h; have := (sameC_iff f t).2 h.symm; rw [hs1] at this; cases this
                      skip
                      obtain ⟨I, W, hne, hWI, hIW⟩ := Go.Mix.family (fun v => Below wr2.heap.size wr2 v) (Below.refl _ _)
                      have HJ := Lib.hid hIW
                      have HW := Lib.hid hWI
                      clear hWI hIW
                      refine Go.Flo.wp_region (fun w' => ∃ i, w' = W i) 25 [Go.Flo.Spec.is (.agg #[.int .i8 (f 0), .int .i8 (f 1), .int .i8 (f 2), .int .i8 (f 3), .int .i8 (f 4), .int .i8 (f 5)]), Go.Flo.Spec.is (.agg #[.int .i8 (f 0), .int .i8 (f 1), .int .i8 (f 2), .int .i8 (f 3), .int .i8 (f 4), .int .i8 (f 5)]), Go.Flo.Spec.is (.agg #[.int .i8 (f 0), .int .i8 (f 1), .int .i8 (f 2), .int .i8 (f 3), .int .i8 (f 4), .int .i8 (f 5)])] (by kernel_rfl) (by kernel_rfl) (by decide) (by rintro _ w' ⟨i, rfl⟩ hb; exact HJ.out _ ((HW.out i).trans (hb.mono (HW.out i).size))) (HJ.out _ (Below.refl _ _).drew) ?_
                      simp only [Go.Flo.pair, Go.Mix.calm, List.take, List.drop, if_true, Bool.false_eq_true, if_false, Nat.reduceAdd, Nat.reduceSub]
                      have he1 : ∀ w, (binOp .neq 67 (.agg #[.int .i8 (f 0), .int .i8 (f 1), .int .i8 (f 2), .int .i8 (f 3), .int .i8 (f 4), .int .i8 (f 5)]) (.agg #[.int .i8 (f 0), .int .i8 (f 1), .int .i8 (f 2), .int .i8 (f 3), .int .i8 (f 4), .int .i8 (f 5)])).run Try.prog w = .ok (.bool (!sameC f f)) w := fun w => neqCh HC.out.1 HC.out.1 w
                      have he2 : ∀ w, (binOp .neq 67 (.agg #[.int .i8 (f 0), .int .i8 (f 1), .int .i8 (f 2), .int .i8 (f 3), .int .i8 (f 4), .int .i8 (f 5)]) (.agg #[.int .i8 (t 0), .int .i8 (t 1), .int .i8 (t 2), .int .i8 (t 3), .int .i8 (t 4), .int .i8 (t 5)])).run Try.prog w = .ok (.bool (!sameC f t)) w := fun w => neqCh HC.out.1 HC.out.2 w
                      have he3 : ∀ w, (binOp .eql 67 (.agg #[.int .i8 (f 0), .int .i8 (f 1), .int .i8 (f 2), .int .i8 (f 3), .int .i8 (f 4), .int .i8 (f 5)]) (.agg #[.int .i8 (t 0), .int .i8 (t 1), .int .i8 (t 2), .int .i8 (t 3), .int .i8 (t 4), .int .i8 (t 5)])).run Try.prog w = .ok (.bool (sameC f t)) w := fun w => eqlCh HC.out.1 HC.out.2 w
                      have he4 : ∀ w, (binOp .neq 67 (.agg #[.int .i8 (f 0), .int .i8 (f 1), .int .i8 (f 2), .int .i8 (f 3), .int .i8 (f 4), .int .i8 (f 5)]) (.agg #[.int .i8 (t 0), .int .i8 (t 1), .int .i8 (t 2), .int .i8 (t 3), .int .i8 (t 4), .int .i8 (t 5)])).run Try.prog w = .ok (.bool (!sameC f t)) w := fun w => neqCh HC.out.1 HC.out.2 w
                      simp only [sameC_refl, hs1, hs2, Bool.not_true, Bool.not_false] at he1 he2 he3 he4
                      repeat (first | (refine Go.Flo.fw_calm rfl ?_ (fun K hK => ?_); (first | exact Go.Mix.wanted_none rfl | exact Go.Mix.wanted_tt rfl rfl rfl | exact Go.Mix.wanted_ff rfl rfl rfl); refine Go.Flo.quiet_load_row 96 _ rfl _ rfl _ #[.int .u8 2, .int .i8 (f 0), .int .i8 (f 1), .int .i8 (f 2), .int .i8 (f 3), .int .i8 (f 4), .int .i8 (f 5), .int .i8 (t 0), .int .i8 (t 1), .int .i8 (t 2), .int .i8 (t 3), .int .i8 (t 4), .int .i8 (t 5)] _ (by rintro _ ⟨i, rfl⟩; exact ((HW.out i).block _ l19).trans b19) Try.underlying96 rfl size_tn ?_; go_simp; refine hK _ ?_; clear hK K) | (refine Go.Flo.fw_calm rfl ?_ (fun K hK => ?_); (first | exact Go.Mix.wanted_none rfl | exact Go.Mix.wanted_tt rfl rfl rfl | exact Go.Mix.wanted_ff rfl rfl rfl); refine Go.Flo.quiet_load_row 67 _ rfl _ rfl _ #[.int .i8 (f 0), .int .i8 (f 1), .int .i8 (f 2), .int .i8 (f 3), .int .i8 (f 4), .int .i8 (f 5)] _ (by rintro _ ⟨i, rfl⟩; exact ((HW.out i).block _ l5).trans b5) Try.underlying67 rfl size_ch ?_; go_simp; refine hK _ ?_; clear hK K) | (refine Go.Flo.fw_calm rfl ?_ (fun K hK => ?_); (first | exact Go.Mix.wanted_none rfl | exact Go.Mix.wanted_tt rfl rfl rfl | exact Go.Mix.wanted_ff rfl rfl rfl); refine Go.Flo.quiet_load_row 67 _ rfl _ rfl _ #[.int .i8 (t 0), .int .i8 (t 1), .int .i8 (t 2), .int .i8 (t 3), .int .i8 (t 4), .int .i8 (t 5)] _ (by rintro _ ⟨i, rfl⟩; exact ((HW.out i).block _ l6).trans b6) Try.underlying67 rfl size_ch ?_; go_simp; refine hK _ ?_; clear hK K) | (refine Go.Flo.fw_loud rfl ?_ rfl (by simp) (fun wv hwv hav K hK => ?_) (fun v hv K hK => ?_); (· (first | exact Go.Mix.wanted_none rfl | exact Go.Mix.wanted_tt rfl rfl rfl | exact Go.Mix.wanted_ff rfl rfl rfl)); (· obtain ⟨iv, rfl⟩ := hwv; have hbv := HW.out iv; (first | go_big_op | go_simp); go_at_call 51; refine (Active_any 2 f t _).mono ?_; rintro e w' ⟨rfl, hb⟩; rw [hact]; exact hK _ _ (Go.Flo.owes_is _ rfl hb)); (obtain rfl := hv.is; go_simp; refine hK _ ?_; clear hK K hv)) | (first | (refine Go.Flo.fw_calm rfl ?_ (fun K hK => ?_); (first | exact Go.Mix.wanted_none rfl | exact Go.Mix.wanted_tt rfl rfl rfl | exact Go.Mix.wanted_ff rfl rfl rfl); go_big_quiet_op; refine hK _ ?_; clear hK K) | (refine Go.Flo.fw_skip ?_ (fun K hK => ?_); (first | exact Go.Mix.wanted_tf rfl rfl rfl | exact Go.Mix.wanted_ft rfl rfl rfl); go_simp; refine hK _ ?_; clear hK K) | (refine Go.Flo.fw_any rfl ?_ (fun K hK => ?_); (first | exact Go.Mix.wanted_none rfl | exact Go.Mix.wanted_tt rfl rfl rfl | exact Go.Mix.wanted_ff rfl rfl rfl); go_simp; (try (go_ints; try go_simp)); refine hK _ ?_; clear hK K)))
                      refine Go.Flo.fw_nil ?_
                      intro we hwwe hfwe huwe
                      refine Go.Flo.tw_nil ?_
                      obtain ⟨iend, hiend⟩ := hwwe
                      have hbwe := HW.out iend
                      rw [← hiend] at hbwe
                      clear hiend iend huwe
                      have HE1 := Lib.hid (HE.out.step hbwe)
                      clear hfwe HJ HW hne hbwe b5 b6 b19 l5 l6 l19 he1 he2 he3 he4 HE
                      clear W I
                      go_wp2
                      go_meet
                      case rel => exact ⟨rfl, HE1.out⟩
                  case rest =>
                    obtain ⟨rfl, hE⟩ := hcut
                    obtain ⟨wr3, hwr3⟩ : ∃ wr3, wr3 = wc := ⟨_, rfl⟩
                    rw [← hwr3] at hE ⊢
                    have HE := Lib.hid hE
                    clear hE hwr3
                    skip
                    skip
                    have c3 := cell_of_row _ g20 3 _ _ _ HE.out.b20
                    have c2 := cell_of_row _ g20 2 _ _ _ HE.out.b20
                    have b19 := HE.out.b19
                    have b11 := HE.out.st.b11
                    have HS9 := Lib.hid (HE.out.st.put 2 f)
                    obtain ⟨w9, hw9⟩ : ∃ w9, wr3.setRow g11 #[.int .u8 2, .int .i8 (f 0), .int .i8 (f 1), .int .i8 (f 2), .int .i8 (f 3), .int .i8 (f 4), .int .i8 (f 5), .int .i8 (t 0), .int .i8 (t 1), .int .i8 (t 2), .int .i8 (t 3), .int .i8 (t 4), .int .i8 (t 5)] = w9 := ⟨_, rfl⟩
                    rw [hw9] at HS9
                    go_upto_region 25 with (first | ((with_reducible show wpList _ _ _ (_ :: _) _ _); refine wpList_load_row rfl 96 _ rfl _ rfl _ _ _ _ b19 Try.underlying96 rfl (by exact size_tn) ?_; (try go_simp)) | (((with_reducible show wpList _ _ _ (_ :: _) _ _); refine wpList_store_row rfl 96 _ _ rfl _ _ rfl rfl _ _ b11 (by exact size_tn) (by rfl) (by simp [Value.oneCell']) ?_); rw [hw9]))
                    clear hw9 b11 b19 c2 c3
                    go_wp2_with fail
                    go_roundw
                    case rel => exact ⟨k + 1, 2, by omega, by go_num, .inr (.inl rfl), rfl, HS9.out⟩
                    case measure => simp [intOf]; omega
                --]B
              · have HN := Lib.hid (HNX.out.trans ((if_pos hq0).trans (if_neg hl0)))
                clear HNX
                --[C
                skip
                have b11 := HS.out.b11
                have hal : Below wr.heap.size wr (wr.alloc (.cells #[.int .u8 p, .int .i8 (f 0), .int .i8 (f 1), .int .i8 (f 2), .int .i8 (f 3), .int .i8 (f 4), .int .i8 (f 5), .int .i8 (t 0), .int .i8 (t 1), .int .i8 (t 2), .int .i8 (t 3), .int .i8 (t 4), .int .i8 (t 5)] 96)) := by repeat' (first | (with_reducible exact Below.refl _ _) | (with_reducible assumption) | (with_reducible refine Below.setCell ?_ ?_ _) | (with_reducible refine Below.alloc ?_ ?_ _) | (with_reducible refine Below.drew ?_) | (with_reducible refine Below.drawsN ?_ _) | go_size)
                have h18 := heap_alloc_new wr (.cells #[.int .u8 p, .int .i8 (f 0), .int .i8 (f 1), .int .i8 (f 2), .int .i8 (f 3), .int .i8 (f 4), .int .i8 (f 5), .int .i8 (t 0), .int .i8 (t 1), .int .i8 (t 2), .int .i8 (t 3), .int .i8 (t 4), .int .i8 (t 5)] 96)
                obtain ⟨w1, hw1⟩ : ∃ w1, wr.alloc (.cells #[.int .u8 p, .int .i8 (f 0), .int .i8 (f 1), .int .i8 (f 2), .int .i8 (f 3), .int .i8 (f 4), .int .i8 (f 5), .int .i8 (t 0), .int .i8 (t 1), .int .i8 (t 2), .int .i8 (t 3), .int .i8 (t 4), .int .i8 (t 5)] 96) = w1 := ⟨_, rfl⟩
                rw [hw1] at h18 hal
                have HS1 := Lib.hid (HS.out.step hal)
                clear HS hal
                go_upto_region 15 with (first | ((with_reducible show wpList _ _ _ (_ :: _) _ _); refine wpList_load_row rfl 96 _ rfl _ rfl _ _ _ _ b11 Try.underlying96 rfl (by exact size_tn) ?_; (try go_simp)) | ((with_reducible show wpList _ _ _ (_ :: _) _ _); refine wpList_store_row rfl 96 _ _ rfl _ _ rfl rfl _ _ (heap_alloc_new _ _) (by exact size_tn) (by rfl) (by simp [Value.oneCell']) ?_; rw [World.setRow_alloc_new, hw1]))
                clear hw1 b11
                obtain ⟨g18, hg18⟩ : ∃ g, g = wr.heap.size := ⟨_, rfl⟩
                rw [← hg18] at h18 ⊢
                clear hg18
                have b11 := HS1.out.b11
                go_wp2_with (((with_reducible show wpList _ _ _ (_ :: _) _ _); refine wpList_load_row rfl 96 _ rfl _ rfl _ _ _ _ b11 Try.underlying96 rfl (by exact size_tn) ?_; (try go_simp)))
                go_at_call 47
                refine (Next_det _ HC.out.1 HC.out.2 hwv hlv HN.out).mono ?_
                rintro e w2 ⟨v, rfl, hown, hb⟩
                obtain ⟨ya, yc, rfl⟩ := own_formZ hown
                obtain ⟨yl, hyl⟩ : ∃ yl, yl = (upTo 0 16).length := ⟨_, rfl⟩
                rw [← hyl] at hown ⊢
                have hrd := rd_of_own (f := zv (upTo 0 16)) hown (fun i hi => zl_zv (upTo 0 16) i (by omega))
                skip
                obtain ⟨q1, q2, q3, q4, q5⟩ := pairBox w2 #[.int .u8 1, .int .i8 (f 0), .int .i8 (f 1), .int .i8 (f 2), .int .i8 (f 3), .int .i8 (f 4), .int .i8 (f 5), .int .i8 (t 0), .int .i8 (t 1), .int .i8 (t 2), .int .i8 (t 3), .int .i8 (t 4), .int .i8 (t 5)] #[.slice none 0 0, .slice ya yl yc, .bool false, .int .u16 0]
                obtain ⟨wA, hwA⟩ : ∃ x, (w2.alloc (.cells #[.int .u8 0, .int .i8 0, .int .i8 0, .int .i8 0, .int .i8 0, .int .i8 0, .int .i8 0, .int .i8 0, .int .i8 0, .int .i8 0, .int .i8 0, .int .i8 0, .int .i8 0] 96)).alloc (.cells #[.slice none 0 0, .slice none 0 0, .bool false, .int .u16 0] 98) = x := ⟨_, rfl⟩
                rw [hwA] at q1 q2 q3 q4 q5
                obtain ⟨wB, hwB⟩ : ∃ x, wA.setRow w2.heap.size #[.int .u8 1, .int .i8 (f 0), .int .i8 (f 1), .int .i8 (f 2), .int .i8 (f 3), .int .i8 (f 4), .int .i8 (f 5), .int .i8 (t 0), .int .i8 (t 1), .int .i8 (t 2), .int .i8 (t 3), .int .i8 (t 4), .int .i8 (t 5)] = x := ⟨_, rfl⟩
                rw [hwB] at q2 q3 q4 q5
                obtain ⟨wC, hwC⟩ : ∃ x, wB.setRow (w2.heap.size + 1) #[.slice none 0 0, .slice ya yl yc, .bool false, .int .u16 0] = x := ⟨_, rfl⟩
                rw [hwC] at q3 q4 q5
                have h182 := box_below (box_below h18 hb (box_lt h18)) q5 (box_lt (box_below h18 hb (box_lt h18)))
                have HE := Lib.hid (show HoE w wC g5 g6 g11 w2.heap.size (w2.heap.size + 1) f t p 1 f t ya yl yc false 0 (upTo 0 16) from ⟨(HS1.out.step hb).step q5, q3, q4, (hrd.below q5).mono q5.size⟩)
                have HYL := Lib.hid hyl
                clear hown hb hyl hrd HS1 q3 q4 q5 b11 h18
                go_upto_region 16 with (first | ((with_reducible show wpList _ _ _ (_ :: _) _ _); (try rw [hwA]); refine wpList_store_row rfl 96 _ _ rfl _ _ rfl rfl _ _ q1 (by exact size_tn) (by rfl) (by simp [Value.oneCell']) ?_; rw [hwB]) | ((with_reducible show wpList _ _ _ (_ :: _) _ _); refine wpList_store_row rfl 98 _ _ rfl _ _ rfl rfl _ _ q2 (by exact size_st) (by rfl) (by simp [Value.oneCell']) ?_; rw [hwC]))
                clear hwA hwB hwC q1 q2
                obtain ⟨g20, hg20⟩ : ∃ g, g = w2.heap.size + 1 := ⟨_, rfl⟩
                rw [← hg20] at HE ⊢
                obtain ⟨g19, hg19⟩ : ∃ g, g = w2.heap.size := ⟨_, rfl⟩
                rw [← hg19] at HE ⊢
                clear hg19 hg20
                have c18 := ldTp h182
                clear h182
                skip
                simp only [Act.put]
                go_cut [77] (fun v wx => v = .bool false ∧ HoE w wx g5 g6 g11 g19 g20 f t p 1 f t ya yl yc false 0 (upTo 0 16))
                case first =>
                  skip
                  have b6 := HE.out.st.b6
                  go_wp2_with ((refine wpLoadGT (by (first | exact Go.Mix.wanted_none rfl | exact Go.Mix.wanted_tt rfl rfl rfl | exact Go.Mix.wanted_ff rfl rfl rfl)) 67 _ rfl _ rfl _ _ _ _ b6 Try.underlying67 rfl (by exact size_ch) ?_; (try go_simp)))
                  go_at_call 34
                  refine (Units_any t _ HC.out.2).mono ?_
                  rintro e w3 ⟨rfl, hb⟩
                  rw [← HU.out.1]
                  have HE1 := Lib.hid (HE.out.step hb)
                  clear hb HE b6
                  have HE := HE1
                  clear HE1
                  go_wp2_with fail
                  go_at_call 57
                  refine (Within_any u wv _ hu1 hwv).mono ?_
                  rintro e w4 ⟨rfl, rfl⟩
                  by_cases hlw : lessS u wv = 0
                  · rw [decide_eq_true hlw]
                    have hq9 : ((q : Int) == 0) = true := (by simp [hq0])
                    skip
                    have b6 := HE.out.st.b6
                    go_wp2_with ((refine wpLoadGT (by (first | exact Go.Mix.wanted_none rfl | exact Go.Mix.wanted_tt rfl rfl rfl | exact Go.Mix.wanted_ff rfl rfl rfl)) 67 _ rfl _ rfl _ _ _ _ b6 Try.underlying67 rfl (by exact size_ch) ?_; (try go_simp)))
                    go_at_call 34
                    refine (Units_any t _ HC.out.2).mono ?_
                    rintro e w3 ⟨rfl, hb⟩
                    rw [← HU.out.1]
                    have HE1 := Lib.hid (HE.out.step hb)
                    clear hb HE b6
                    have HE := HE1
                    clear HE1
                    go_wp2_with fail
                    go_at_call 35
                    refine (And_any u lv _ hu1 hlv).mono ?_
                    rintro e w4 ⟨rfl, rfl⟩
                    rw [← HQ.out]
                    go_wp2
                    go_meet
                    case rel => exact ⟨by first | (simp [hlw]; done) | exact absurd hlw hl0 | exact absurd hl0 hlw, HE.out⟩
                  · rw [decide_eq_false hlw]
                    go_wp2
                    go_meet
                    case rel => exact ⟨by first | (simp [hlw]; done) | exact absurd hlw hl0 | exact absurd hl0 hlw, HE.out⟩
                case rest =>
                  obtain ⟨rfl, hE⟩ := hcut
                  obtain ⟨wr2, hwr2⟩ : ∃ wr2, wr2 = wc := ⟨_, rfl⟩
                  rw [← hwr2] at hE ⊢
                  have HE := Lib.hid hE
                  clear hE hwr2 c18
                  skip
                  skip
                  go_upto_region 18 with fail
                  go_cut [102] (fun v wx => v = .bool false ∧ HoE w wx g5 g6 g11 g19 g20 f t p 1 f t ya yl yc false 0 (upTo 0 16))
                  case first =>
                    have b5 := HE.out.st.b5
                    have b6 := HE.out.st.b6
                    have b19 := HE.out.b19
                    have l5 := box_lt b5
                    have l6 := box_lt b6
                    have l19 := box_lt b19
                    have hact : actC 1 f t = f := rfl
                    cases hs1 : sameC f t with
                    | true =>
                      have hs2 : sameC t f = true := by rw [sameC_iff] at hs1 ⊢; exact hs1.symm
                      skip
                      obtain ⟨I, W, hne, hWI, hIW⟩ := Go.Mix.family (fun v => Below wr2.heap.size wr2 v) (Below.refl _ _)
                      have HJ := Lib.hid hIW
                      have HW := Lib.hid hWI
                      clear hWI hIW
                      refine Go.Flo.wp_region (fun w' => ∃ i, w' = W i) 25 [Go.Flo.Spec.is (.agg #[.int .i8 (f 0), .int .i8 (f 1), .int .i8 (f 2), .int .i8 (f 3), .int .i8 (f 4), .int .i8 (f 5)]), Go.Flo.Spec.is (.agg #[.int .i8 (f 0), .int .i8 (f 1), .int .i8 (f 2), .int .i8 (f 3), .int .i8 (f 4), .int .i8 (f 5)]), Go.Flo.Spec.is (.agg #[.int .i8 (f 0), .int .i8 (f 1), .int .i8 (f 2), .int .i8 (f 3), .int .i8 (f 4), .int .i8 (f 5)])] (by kernel_rfl) (by kernel_rfl) (by decide) (by rintro _ w' ⟨i, rfl⟩ hb; exact HJ.out _ ((HW.out i).trans (hb.mono (HW.out i).size))) (HJ.out _ (Below.refl _ _).drew) ?_
                      simp only [Go.Flo.pair, Go.Mix.calm, List.take, List.drop, if_true, Bool.false_eq_true, if_false, Nat.reduceAdd, Nat.reduceSub]
                      have he1 : ∀ w, (binOp .neq 67 (.agg #[.int .i8 (f 0), .int .i8 (f 1), .int .i8 (f 2), .int .i8 (f 3), .int .i8 (f 4), .int .i8 (f 5)]) (.agg #[.int .i8 (f 0), .int .i8 (f 1), .int .i8 (f 2), .int .i8 (f 3), .int .i8 (f 4), .int .i8 (f 5)])).run Try.prog w = .ok (.bool (!sameC f f)) w := fun w => neqCh HC.out.1 HC.out.1 w
                      have he2 : ∀ w, (binOp .neq 67 (.agg #[.int .i8 (f 0), .int .i8 (f 1), .int .i8 (f 2), .int .i8 (f 3), .int .i8 (f 4), .int .i8 (f 5)]) (.agg #[.int .i8 (t 0), .int .i8 (t 1), .int .i8 (t 2), .int .i8 (t 3), .int .i8 (t 4), .int .i8 (t 5)])).run Try.prog w = .ok (.bool (!sameC f t)) w := fun w => neqCh HC.out.1 HC.out.2 w
                      have he3 : ∀ w, (binOp .eql 67 (.agg #[.int .i8 (f 0), .int .i8 (f 1), .int .i8 (f 2), .int .i8 (f 3), .int .i8 (f 4), .int .i8 (f 5)]) (.agg #[.int .i8 (t 0), .int .i8 (t 1), .int .i8 (t 2), .int .i8 (t 3), .int .i8 (t 4), .int .i8 (t 5)])).run Try.prog w = .ok (.bool (sameC f t)) w := fun w => eqlCh HC.out.1 HC.out.2 w
                      have he4 : ∀ w, (binOp .neq 67 (.agg #[.int .i8 (f 0), .int .i8 (f 1), .int .i8 (f 2), .int .i8 (f 3), .int .i8 (f 4), .int .i8 (f 5)]) (.agg #[.int .i8 (t 0), .int .i8 (t 1), .int .i8 (t 2), .int .i8 (t 3), .int .i8 (t 4), .int .i8 (t 5)])).run Try.prog w = .ok (.bool (!sameC f t)) w := fun w => neqCh HC.out.1 HC.out.2 w
                      simp only [sameC_refl, hs1, hs2, Bool.not_true, Bool.not_false] at he1 he2 he3 he4
                      repeat (first | (refine Go.Flo.fw_calm rfl ?_ (fun K hK => ?_); (first | exact Go.Mix.wanted_none rfl | exact Go.Mix.wanted_tt rfl rfl rfl | exact Go.Mix.wanted_ff rfl rfl rfl); refine Go.Flo.quiet_load_row 96 _ rfl _ rfl _ #[.int .u8 1, .int .i8 (f 0), .int .i8 (f 1), .int .i8 (f 2), .int .i8 (f 3), .int .i8 (f 4), .int .i8 (f 5), .int .i8 (t 0), .int .i8 (t 1), .int .i8 (t 2), .int .i8 (t 3), .int .i8 (t 4), .int .i8 (t 5)] _ (by rintro _ ⟨i, rfl⟩; exact ((HW.out i).block _ l19).trans b19) Try.underlying96 rfl size_tn ?_; go_simp; refine hK _ ?_; clear hK K) | (refine Go.Flo.fw_calm rfl ?_ (fun K hK => ?_); (first | exact Go.Mix.wanted_none rfl | exact Go.Mix.wanted_tt rfl rfl rfl | exact Go.Mix.wanted_ff rfl rfl rfl); refine Go.Flo.quiet_load_row 67 _ rfl _ rfl _ #[.int .i8 (f 0), .int .i8 (f 1), .int .i8 (f 2), .int .i8 (f 3), .int .i8 (f 4), .int .i8 (f 5)] _ (by rintro _ ⟨i, rfl⟩; exact ((HW.out i).block _ l5).trans b5) Try.underlying67 rfl size_ch ?_; go_simp; refine hK _ ?_; clear hK K) | (refine Go.Flo.fw_calm rfl ?_ (fun K hK => ?_); (first | exact Go.Mix.wanted_none rfl | exact Go.Mix.wanted_tt rfl rfl rfl | exact Go.Mix.wanted_ff rfl rfl rfl); refine Go.Flo.quiet_load_row 67 _ rfl _ rfl _ #[.int .i8 (t 0), .int .i8 (t 1), .int .i8 (t 2), .int .i8 (t 3), .int .i8 (t 4), .int .i8 (t 5)] _ (by rintro _ ⟨i, rfl⟩; exact ((HW.out i).block _ l6).trans b6) Try.underlying67 rfl size_ch ?_; go_simp; refine hK _ ?_; clear hK K) | (refine Go.Flo.fw_loud rfl ?_ rfl (by simp) (fun wv hwv hav K hK => ?_) (fun v hv K hK => ?_); (· (first | exact Go.Mix.wanted_none rfl | exact Go.Mix.wanted_tt rfl rfl rfl | exact Go.Mix.wanted_ff rfl rfl rfl)); (· obtain ⟨iv, rfl⟩ := hwv; have hbv := HW.out iv; (first | go_big_op | go_simp); go_at_call 51; refine (Active_any 1 f t _).mono ?_; rintro e w' ⟨rfl, hb⟩; rw [hact]; exact hK _ _ (Go.Flo.owes_is _ rfl hb)); (obtain rfl := hv.is; go_simp; refine hK _ ?_; clear hK K hv)) | (first | (refine Go.Flo.fw_calm rfl ?_ (fun K hK => ?_); (first | exact Go.Mix.wanted_none rfl | exact Go.Mix.wanted_tt rfl rfl rfl | exact Go.Mix.wanted_ff rfl rfl rfl); go_big_quiet_op; refine hK _ ?_; clear hK K) | (refine Go.Flo.fw_skip ?_ (fun K hK => ?_); (first | exact Go.Mix.wanted_tf rfl rfl rfl | exact Go.Mix.wanted_ft rfl rfl rfl); go_simp; refine hK _ ?_; clear hK K) | (refine Go.Flo.fw_any rfl ?_ (fun K hK => ?_); (first | exact Go.Mix.wanted_none rfl | exact Go.Mix.wanted_tt rfl rfl rfl | exact Go.Mix.wanted_ff rfl rfl rfl); go_simp; (try (go_ints; try go_simp)); refine hK _ ?_; clear hK K)))
                      refine Go.Flo.fw_nil ?_
                      intro we hwwe hfwe huwe
                      refine Go.Flo.tw_nil ?_
                      obtain ⟨iend, hiend⟩ := hwwe
                      have hbwe := HW.out iend
                      rw [← hiend] at hbwe
                      clear hiend iend huwe
                      have HE1 := Lib.hid (HE.out.step hbwe)
                      clear hfwe HJ HW hne hbwe b5 b6 b19 l5 l6 l19 he1 he2 he3 he4 HE
                      clear W I
                      go_wp2
                      go_meet
                      case rel => exact ⟨rfl, HE1.out⟩
                    | false =>
                      have hs2 : sameC t f = false := by
                        cases h : sameC t f with
                        | false => rfl
                        | true => rw [sameC_iff] at h; have := (sameC_iff f t).2 h.symm; rw [hs1] at this; cases this
                      skip
                      obtain ⟨I, W, hne, hWI, hIW⟩ := Go.Mix.family (fun v => Below wr2.heap.size wr2 v) (Below.refl _ _)
                      have HJ := Lib.hid hIW
                      have HW := Lib.hid hWI
                      clear hWI hIW
                      refine Go.Flo.wp_region (fun w' => ∃ i, w' = W i) 25 [Go.Flo.Spec.is (.agg #[.int .i8 (f 0), .int .i8 (f 1), .int .i8 (f 2), .int .i8 (f 3), .int .i8 (f 4), .int .i8 (f 5)]), Go.Flo.Spec.is (.agg #[.int .i8 (f 0), .int .i8 (f 1), .int .i8 (f 2), .int .i8 (f 3), .int .i8 (f 4), .int .i8 (f 5)]), Go.Flo.Spec.is (.agg #[.int .i8 (f 0), .int .i8 (f 1), .int .i8 (f 2), .int .i8 (f 3), .int .i8 (f 4), .int .i8 (f 5)])] (by kernel_rfl) (by kernel_rfl) (by decide) (by rintro _ w' ⟨i, rfl⟩ hb; exact HJ.out _ ((HW.out i).trans (hb.mono (HW.out i).size))) (HJ.out _ (Below.refl _ _).drew) ?_
                      simp only [Go.Flo.pair, Go.Mix.calm, List.take, List.drop, if_true, Bool.false_eq_true, if_false, Nat.reduceAdd, Nat.reduceSub]
                      have he1 : ∀ w, (binOp .neq 67 (.agg #[.int .i8 (f 0), .int .i8 (f 1), .int .i8 (f 2), .int .i8 (f 3), .int .i8 (f 4), .int .i8 (f 5)]) (.agg #[.int .i8 (f 0), .int .i8 (f 1), .int .i8 (f 2), .int .i8 (f 3), .int .i8 (f 4), .int .i8 (f 5)])).run Try.prog w = .ok (.bool (!sameC f f)) w := fun w => neqCh HC.out.1 HC.out.1 w
                      have he2 : ∀ w, (binOp .neq 67 (.agg #[.int .i8 (f 0), .int .i8 (f 1), .int .i8 (f 2), .int .i8 (f 3), .int .i8 (f 4), .int .i8 (f 5)]) (.agg #[.int .i8 (t 0), .int .i8 (t 1), .int .i8 (t 2), .int .i8 (t 3), .int .i8 (t 4), .int .i8 (t 5)])).run Try.prog w = .ok (.bool (!sameC f t)) w := fun w => neqCh HC.out.1 HC.out.2 w
                      have he3 : ∀ w, (binOp .eql 67 (.agg #[.int .i8 (f 0), .int .i8 (f 1), .int .i8 (f 2), .int .i8 (f 3), .int .i8 (f 4), .int .i8 (f 5)]) (.agg #[.int .i8 (t 0), .int .i8 (t 1), .int .i8 (t 2), .int .i8 (t 3), .int .i8 (t 4), .int .i8 (t 5)])).run Try.prog w = .ok (.bool (sameC f t)) w := fun w => eqlCh HC.out.1 HC.out.2 w
                      have he4 : ∀ w, (binOp .neq 67 (.agg #[.int .i8 (f 0), .int .i8 (f 1), .int .i8 (f 2), .int .i8 (f 3), .int .i8 (f 4), .int .i8 (f 5)]) (.agg #[.int .i8 (t 0), .int .i8 (t 1), .int .i8 (t 2), .int .i8 (t 3), .int .i8 (t 4), .int .i8 (t 5)])).run Try.prog w = .ok (.bool (!sameC f t)) w := fun w => neqCh HC.out.1 HC.out.2 w
                      simp only [sameC_refl, hs1, hs2, Bool.not_true, Bool.not_false] at he1 he2 he3 he4
                      repeat (first | (refine Go.Flo.fw_calm rfl ?_ (fun K hK => ?_); (first | exact Go.Mix.wanted_none rfl | exact Go.Mix.wanted_tt rfl rfl rfl | exact Go.Mix.wanted_ff rfl rfl rfl); refine Go.Flo.quiet_load_row 96 _ rfl _ rfl _ #[.int .u8 1, .int .i8 (f 0), .int .i8 (f 1), .int .i8 (f 2), .int .i8 (f 3), .int .i8 (f 4), .int .i8 (f 5), .int .i8 (t 0), .int .i8 (t 1), .int .i8 (t 2), .int .i8 (t 3), .int .i8 (t 4), .int .i8 (t 5)] _ (by rintro _ ⟨i, rfl⟩; exact ((HW.out i).block _ l19).trans b19) Try.underlying96 rfl size_tn ?_; go_simp; refine hK _ ?_; clear hK K) | (refine Go.Flo.fw_calm rfl ?_ (fun K hK => ?_); (first | exact Go.Mix.wanted_none rfl | exact Go.Mix.wanted_tt rfl rfl rfl | exact Go.Mix.wanted_ff rfl rfl rfl); refine Go.Flo.quiet_load_row 67 _ rfl _ rfl _ #[.int .i8 (f 0), .int .i8 (f 1), .int .i8 (f 2), .int .i8 (f 3), .int .i8 (f 4), .int .i8 (f 5)] _ (by rintro _ ⟨i, rfl⟩; exact ((HW.out i).block _ l5).trans b5) Try.underlying67 rfl size_ch ?_; go_simp; refine hK _ ?_; clear hK K) | (refine Go.Flo.fw_calm rfl ?_ (fun K hK => ?_); (first | exact Go.Mix.wanted_none rfl | exact Go.Mix.wanted_tt rfl rfl rfl | exact Go.Mix.wanted_ff rfl rfl rfl); refine Go.Flo.quiet_load_row 67 _ rfl _ rfl _ #[.int .i8 (t 0), .int .i8 (t 1), .int .i8 (t 2), .int .i8 (t 3), .int .i8 (t 4), .int .i8 (t 5)] _ (by rintro _ ⟨i, rfl⟩; exact ((HW.out i).block _ l6).trans b6) Try.underlying67 rfl size_ch ?_; go_simp; refine hK _ ?_; clear hK K) | (refine Go.Flo.fw_loud rfl ?_ rfl (by simp) (fun wv hwv hav K hK => ?_) (fun v hv K hK => ?_); (· (first | exact Go.Mix.wanted_none rfl | exact Go.Mix.wanted_tt rfl rfl rfl | exact Go.Mix.wanted_ff rfl rfl rfl)); (· obtain ⟨iv, rfl⟩ := hwv; have hbv := HW.out iv; (first | go_big_op | go_simp); go_at_call 51; refine (Active_any 1 f t _).mono ?_; rintro e w' ⟨rfl, hb⟩; rw [hact]; exact hK _ _ (Go.Flo.owes_is _ rfl hb)); (obtain rfl := hv.is; go_simp; refine hK _ ?_; clear hK K hv)) | (first | (refine Go.Flo.fw_calm rfl ?_ (fun K hK => ?_); (first | exact Go.Mix.wanted_none rfl | exact Go.Mix.wanted_tt rfl rfl rfl | exact Go.Mix.wanted_ff rfl rfl rfl); go_big_quiet_op; refine hK _ ?_; clear hK K) | (refine Go.Flo.fw_skip ?_ (fun K hK => ?_); (first | exact Go.Mix.wanted_tf rfl rfl rfl | exact Go.Mix.wanted_ft rfl rfl rfl); go_simp; refine hK _ ?_; clear hK K) | (refine Go.Flo.fw_any rfl ?_ (fun K hK => ?_); (first | exact Go.Mix.wanted_none rfl | exact Go.Mix.wanted_tt rfl rfl rfl | exact Go.Mix.wanted_ff rfl rfl rfl); go_simp; (try (go_ints; try go_simp)); refine hK _ ?_; clear hK K)))
                      refine Go.Flo.fw_nil ?_
                      intro we hwwe hfwe huwe
                      refine Go.Flo.tw_nil ?_
                      obtain ⟨iend, hiend⟩ := hwwe
                      have hbwe := HW.out iend
                      rw [← hiend] at hbwe
                      clear hiend iend huwe
                      have HE1 := Lib.hid (HE.out.step hbwe)
                      clear hfwe HJ HW hne hbwe b5 b6 b19 l5 l6 l19 he1 he2 he3 he4 HE
                      clear W I
                      go_wp2
                      go_meet
                      case rel => exact ⟨rfl, HE1.out⟩
                  case rest =>
                    obtain ⟨rfl, hE⟩ := hcut
                    obtain ⟨wr3, hwr3⟩ : ∃ wr3, wr3 = wc := ⟨_, rfl⟩
                    rw [← hwr3] at hE ⊢
                    have HE := Lib.hid hE
                    clear hE hwr3
                    skip
                    skip
                    have c3 := cell_of_row _ g20 3 _ _ _ HE.out.b20
                    have c2 := cell_of_row _ g20 2 _ _ _ HE.out.b20
                    have b19 := HE.out.b19
                    have b11 := HE.out.st.b11
                    have HS9 := Lib.hid (HE.out.st.put 1 f)
                    obtain ⟨w9, hw9⟩ : ∃ w9, wr3.setRow g11 #[.int .u8 1, .int .i8 (f 0), .int .i8 (f 1), .int .i8 (f 2), .int .i8 (f 3), .int .i8 (f 4), .int .i8 (f 5), .int .i8 (t 0), .int .i8 (t 1), .int .i8 (t 2), .int .i8 (t 3), .int .i8 (t 4), .int .i8 (t 5)] = w9 := ⟨_, rfl⟩
                    rw [hw9] at HS9
                    go_upto_region 25 with (first | ((with_reducible show wpList _ _ _ (_ :: _) _ _); refine wpList_load_row rfl 96 _ rfl _ rfl _ _ _ _ b19 Try.underlying96 rfl (by exact size_tn) ?_; (try go_simp)) | (((with_reducible show wpList _ _ _ (_ :: _) _ _); refine wpList_store_row rfl 96 _ _ rfl _ _ rfl rfl _ _ b11 (by exact size_tn) (by rfl) (by simp [Value.oneCell']) ?_); rw [hw9]))
                    clear hw9 b11 b19 c2 c3
                    go_wp2_with fail
                    go_roundw
                    case rel => exact ⟨k + 1, 1, by omega, by go_num, .inl rfl, rfl, HS9.out⟩
                    case measure => simp [intOf]; omega
                --]C
            · have HN := Lib.hid (HNX.out.trans (if_neg hq0))
              have HQ0 := Lib.hid hq0
              clear hq0 HNX
              --[A
              skip
              have b11 := HS.out.b11
              have hal : Below wr.heap.size wr (wr.alloc (.cells #[.int .u8 p, .int .i8 (f 0), .int .i8 (f 1), .int .i8 (f 2), .int .i8 (f 3), .int .i8 (f 4), .int .i8 (f 5), .int .i8 (t 0), .int .i8 (t 1), .int .i8 (t 2), .int .i8 (t 3), .int .i8 (t 4), .int .i8 (t 5)] 96)) := by repeat' (first | (with_reducible exact Below.refl _ _) | (with_reducible assumption) | (with_reducible refine Below.setCell ?_ ?_ _) | (with_reducible refine Below.alloc ?_ ?_ _) | (with_reducible refine Below.drew ?_) | (with_reducible refine Below.drawsN ?_ _) | go_size)
              have h18 := heap_alloc_new wr (.cells #[.int .u8 p, .int .i8 (f 0), .int .i8 (f 1), .int .i8 (f 2), .int .i8 (f 3), .int .i8 (f 4), .int .i8 (f 5), .int .i8 (t 0), .int .i8 (t 1), .int .i8 (t 2), .int .i8 (t 3), .int .i8 (t 4), .int .i8 (t 5)] 96)
              obtain ⟨w1, hw1⟩ : ∃ w1, wr.alloc (.cells #[.int .u8 p, .int .i8 (f 0), .int .i8 (f 1), .int .i8 (f 2), .int .i8 (f 3), .int .i8 (f 4), .int .i8 (f 5), .int .i8 (t 0), .int .i8 (t 1), .int .i8 (t 2), .int .i8 (t 3), .int .i8 (t 4), .int .i8 (t 5)] 96) = w1 := ⟨_, rfl⟩
              rw [hw1] at h18 hal
              have HS1 := Lib.hid (HS.out.step hal)
              clear HS hal
              go_upto_region 15 with (first | ((with_reducible show wpList _ _ _ (_ :: _) _ _); refine wpList_load_row rfl 96 _ rfl _ rfl _ _ _ _ b11 Try.underlying96 rfl (by exact size_tn) ?_; (try go_simp)) | ((with_reducible show wpList _ _ _ (_ :: _) _ _); refine wpList_store_row rfl 96 _ _ rfl _ _ rfl rfl _ _ (heap_alloc_new _ _) (by exact size_tn) (by rfl) (by simp [Value.oneCell']) ?_; rw [World.setRow_alloc_new, hw1]))
              clear hw1 b11
              obtain ⟨g18, hg18⟩ : ∃ g, g = wr.heap.size := ⟨_, rfl⟩
              rw [← hg18] at h18 ⊢
              clear hg18
              have b11 := HS1.out.b11
              go_wp2_with (((with_reducible show wpList _ _ _ (_ :: _) _ _); refine wpList_load_row rfl 96 _ rfl _ rfl _ _ _ _ b11 Try.underlying96 rfl (by exact size_tn) ?_; (try go_simp)))
              go_at_call 47
              refine (Next_det _ HC.out.1 HC.out.2 hwv hlv HN.out).mono ?_
              rintro e w2 ⟨v, rfl, hown, hb⟩
              obtain ⟨ya, yc, rfl⟩ := own_formZ hown
              obtain ⟨yl, hyl⟩ : ∃ yl, yl = (upTo (onlyS t f) 16).length := ⟨_, rfl⟩
              rw [← hyl] at hown ⊢
              have hrd := rd_of_own (f := zv (upTo (onlyS t f) 16)) hown (fun i hi => zl_zv (upTo (onlyS t f) 16) i (by omega))
              skip
              obtain ⟨q1, q2, q3, q4, q5⟩ := pairBox w2 #[.int .u8 0, .int .i8 (f 0), .int .i8 (f 1), .int .i8 (f 2), .int .i8 (f 3), .int .i8 (f 4), .int .i8 (f 5), .int .i8 (f 0), .int .i8 (f 1), .int .i8 (f 2), .int .i8 (f 3), .int .i8 (f 4), .int .i8 (f 5)] #[.slice none 0 0, .slice ya yl yc, .bool false, .int .u16 ((q : Nat) : Int)]
              obtain ⟨wA, hwA⟩ : ∃ x, (w2.alloc (.cells #[.int .u8 0, .int .i8 0, .int .i8 0, .int .i8 0, .int .i8 0, .int .i8 0, .int .i8 0, .int .i8 0, .int .i8 0, .int .i8 0, .int .i8 0, .int .i8 0, .int .i8 0] 96)).alloc (.cells #[.slice none 0 0, .slice none 0 0, .bool false, .int .u16 0] 98) = x := ⟨_, rfl⟩
              rw [hwA] at q1 q2 q3 q4 q5
              obtain ⟨wB, hwB⟩ : ∃ x, wA.setRow w2.heap.size #[.int .u8 0, .int .i8 (f 0), .int .i8 (f 1), .int .i8 (f 2), .int .i8 (f 3), .int .i8 (f 4), .int .i8 (f 5), .int .i8 (f 0), .int .i8 (f 1), .int .i8 (f 2), .int .i8 (f 3), .int .i8 (f 4), .int .i8 (f 5)] = x := ⟨_, rfl⟩
              rw [hwB] at q2 q3 q4 q5
              obtain ⟨wC, hwC⟩ : ∃ x, wB.setRow (w2.heap.size + 1) #[.slice none 0 0, .slice ya yl yc, .bool false, .int .u16 ((q : Nat) : Int)] = x := ⟨_, rfl⟩
              rw [hwC] at q3 q4 q5
              have h182 := box_below (box_below h18 hb (box_lt h18)) q5 (box_lt (box_below h18 hb (box_lt h18)))
              have HE := Lib.hid (show HoE w wC g5 g6 g11 w2.heap.size (w2.heap.size + 1) f t p 0 f f ya yl yc false q (upTo (onlyS t f) 16) from ⟨(HS1.out.step hb).step q5, q3, q4, (hrd.below q5).mono q5.size⟩)
              have HYL := Lib.hid hyl
              clear hown hb hyl hrd HS1 q3 q4 q5 b11 h18
              go_upto_region 16 with (first | ((with_reducible show wpList _ _ _ (_ :: _) _ _); (try rw [hwA]); refine wpList_store_row rfl 96 _ _ rfl _ _ rfl rfl _ _ q1 (by exact size_tn) (by rfl) (by simp [Value.oneCell']) ?_; rw [hwB]) | ((with_reducible show wpList _ _ _ (_ :: _) _ _); refine wpList_store_row rfl 98 _ _ rfl _ _ rfl rfl _ _ q2 (by exact size_st) (by rfl) (by simp [Value.oneCell']) ?_; rw [hwC]))
              clear hwA hwB hwC q1 q2
              obtain ⟨g20, hg20⟩ : ∃ g, g = w2.heap.size + 1 := ⟨_, rfl⟩
              rw [← hg20] at HE ⊢
              obtain ⟨g19, hg19⟩ : ∃ g, g = w2.heap.size := ⟨_, rfl⟩
              rw [← hg19] at HE ⊢
              clear hg19 hg20
              have c18 := ldTp h182
              clear h182
              skip
              simp only [Act.put]
              go_cut [77] (fun v wx => v = .bool false ∧ HoE w wx g5 g6 g11 g19 g20 f t p 0 f f ya yl yc false q (upTo (onlyS t f) 16))
              case first =>
                skip
                have b6 := HE.out.st.b6
                go_wp2_with ((refine wpLoadGT (by (first | exact Go.Mix.wanted_none rfl | exact Go.Mix.wanted_tt rfl rfl rfl | exact Go.Mix.wanted_ff rfl rfl rfl)) 67 _ rfl _ rfl _ _ _ _ b6 Try.underlying67 rfl (by exact size_ch) ?_; (try go_simp)))
                go_at_call 34
                refine (Units_any t _ HC.out.2).mono ?_
                rintro e w3 ⟨rfl, hb⟩
                rw [← HU.out.1]
                have HE1 := Lib.hid (HE.out.step hb)
                clear hb HE b6
                have HE := HE1
                clear HE1
                go_wp2_with fail
                go_at_call 57
                refine (Within_any u wv _ hu1 hwv).mono ?_
                rintro e w4 ⟨rfl, rfl⟩
                by_cases hlw : lessS u wv = 0
                · rw [decide_eq_true hlw]
                  have hq9 : ((q : Int) == 0) = false := (by rw [beq_eq_false_iff_ne]; have := HQ0.out; omega)
                  skip
                  have b6 := HE.out.st.b6
                  go_wp2_with ((refine wpLoadGT (by (first | exact Go.Mix.wanted_none rfl | exact Go.Mix.wanted_tt rfl rfl rfl | exact Go.Mix.wanted_ff rfl rfl rfl)) 67 _ rfl _ rfl _ _ _ _ b6 Try.underlying67 rfl (by exact size_ch) ?_; (try go_simp)))
                  go_at_call 34
                  refine (Units_any t _ HC.out.2).mono ?_
                  rintro e w3 ⟨rfl, hb⟩
                  rw [← HU.out.1]
                  have HE1 := Lib.hid (HE.out.step hb)
                  clear hb HE b6
                  have HE := HE1
                  clear HE1
                  go_wp2_with fail
                  go_at_call 35
                  refine (And_any u lv _ hu1 hlv).mono ?_
                  rintro e w4 ⟨rfl, rfl⟩
                  rw [← HQ.out]
                  go_wp2
                  go_meet
                  case rel => exact ⟨by first | (simp [hlw]; done) | exact absurd hlw hl0 | exact absurd hl0 hlw, HE.out⟩
                · rw [decide_eq_false hlw]
                  go_wp2
                  go_meet
                  case rel => exact ⟨by first | (simp [hlw]; done) | exact absurd hlw hl0 | exact absurd hl0 hlw, HE.out⟩
              case rest =>
                obtain ⟨rfl, hE⟩ := hcut
                obtain ⟨wr2, hwr2⟩ : ∃ wr2, wr2 = wc := ⟨_, rfl⟩
                rw [← hwr2] at hE ⊢
                have HE := Lib.hid hE
                clear hE hwr2 c18
                skip
                skip
                go_upto_region 18 with fail
                go_cut [102] (fun v wx => v = .bool false ∧ HoE w wx g5 g6 g11 g19 g20 f t p 0 f f ya yl yc false q (upTo (onlyS t f) 16))
                case first =>
                  have b5 := HE.out.st.b5
                  have b6 := HE.out.st.b6
                  have b19 := HE.out.b19
                  have l5 := box_lt b5
                  have l6 := box_lt b6
                  have l19 := box_lt b19
                  have hact : actC 0 f f = f := rfl
                  cases hs1 : sameC f t with
                  | true =>
                    have hs2 : sameC t f = true := by rw [sameC_iff] at hs1 ⊢; exact hs1.symm
                    skip
                    obtain ⟨I, W, hne, hWI, hIW⟩ := Go.Mix.family (fun v => Below wr2.heap.size wr2 v) (Below.refl _ _)
                    have HJ := Lib.hid hIW
                    have HW := Lib.hid hWI
                    clear hWI hIW
                    refine Go.Flo.wp_region (fun w' => ∃ i, w' = W i) 25 [Go.Flo.Spec.is (.agg #[.int .i8 (f 0), .int .i8 (f 1), .int .i8 (f 2), .int .i8 (f 3), .int .i8 (f 4), .int .i8 (f 5)]), Go.Flo.Spec.is (.agg #[.int .i8 (f 0), .int .i8 (f 1), .int .i8 (f 2), .int .i8 (f 3), .int .i8 (f 4), .int .i8 (f 5)]), Go.Flo.Spec.is (.agg #[.int .i8 (f 0), .int .i8 (f 1), .int .i8 (f 2), .int .i8 (f 3), .int .i8 (f 4), .int .i8 (f 5)])] (by kernel_rfl) (by kernel_rfl) (by decide) (by rintro _ w' ⟨i, rfl⟩ hb; exact HJ.out _ ((HW.out i).trans (hb.mono (HW.out i).size))) (HJ.out _ (Below.refl _ _).drew) ?_
                    simp only [Go.Flo.pair, Go.Mix.calm, List.take, List.drop, if_true, Bool.false_eq_true, if_false, Nat.reduceAdd, Nat.reduceSub]
                    have he1 : ∀ w, (binOp .neq 67 (.agg #[.int .i8 (f 0), .int .i8 (f 1), .int .i8 (f 2), .int .i8 (f 3), .int .i8 (f 4), .int .i8 (f 5)]) (.agg #[.int .i8 (f 0), .int .i8 (f 1), .int .i8 (f 2), .int .i8 (f 3), .int .i8 (f 4), .int .i8 (f 5)])).run Try.prog w = .ok (.bool (!sameC f f)) w := fun w => neqCh HC.out.1 HC.out.1 w
                    have he2 : ∀ w, (binOp .neq 67 (.agg #[.int .i8 (f 0), .int .i8 (f 1), .int .i8 (f 2), .int .i8 (f 3), .int .i8 (f 4), .int .i8 (f 5)]) (.agg #[.int .i8 (t 0), .int .i8 (t 1), .int .i8 (t 2), .int .i8 (t 3), .int .i8 (t 4), .int .i8 (t 5)])).run Try.prog w = .ok (.bool (!sameC f t)) w := fun w => neqCh HC.out.1 HC.out.2 w
                    have he3 : ∀ w, (binOp .eql 67 (.agg #[.int .i8 (f 0), .int .i8 (f 1), .int .i8 (f 2), .int .i8 (f 3), .int .i8 (f 4), .int .i8 (f 5)]) (.agg #[.int .i8 (t 0), .int .i8 (t 1), .int .i8 (t 2), .int .i8 (t 3), .int .i8 (t 4), .int .i8 (t 5)])).run Try.prog w = .ok (.bool (sameC f t)) w := fun w => eqlCh HC.out.1 HC.out.2 w
                    have he4 : ∀ w, (binOp .neq 67 (.agg #[.int .i8 (f 0), .int .i8 (f 1), .int .i8 (f 2), .int .i8 (f 3), .int .i8 (f 4), .int .i8 (f 5)]) (.agg #[.int .i8 (t 0), .int .i8 (t 1), .int .i8 (t 2), .int .i8 (t 3), .int .i8 (t 4), .int .i8 (t 5)])).run Try.prog w = .ok (.bool (!sameC f t)) w := fun w => neqCh HC.out.1 HC.out.2 w
                    simp only [sameC_refl, hs1, hs2, Bool.not_true, Bool.not_false] at he1 he2 he3 he4
                    repeat (first | (refine Go.Flo.fw_calm rfl ?_ (fun K hK => ?_); (first | exact Go.Mix.wanted_none rfl | exact Go.Mix.wanted_tt rfl rfl rfl | exact Go.Mix.wanted_ff rfl rfl rfl); refine Go.Flo.quiet_load_row 96 _ rfl _ rfl _ #[.int .u8 0, .int .i8 (f 0), .int .i8 (f 1), .int .i8 (f 2), .int .i8 (f 3), .int .i8 (f 4), .int .i8 (f 5), .int .i8 (f 0), .int .i8 (f 1), .int .i8 (f 2), .int .i8 (f 3), .int .i8 (f 4), .int .i8 (f 5)] _ (by rintro _ ⟨i, rfl⟩; exact ((HW.out i).block _ l19).trans b19) Try.underlying96 rfl size_tn ?_; go_simp; refine hK _ ?_; clear hK K) | (refine Go.Flo.fw_calm rfl ?_ (fun K hK => ?_); (first | exact Go.Mix.wanted_none rfl | exact Go.Mix.wanted_tt rfl rfl rfl | exact Go.Mix.wanted_ff rfl rfl rfl); refine Go.Flo.quiet_load_row 67 _ rfl _ rfl _ #[.int .i8 (f 0), .int .i8 (f 1), .int .i8 (f 2), .int .i8 (f 3), .int .i8 (f 4), .int .i8 (f 5)] _ (by rintro _ ⟨i, rfl⟩; exact ((HW.out i).block _ l5).trans b5) Try.underlying67 rfl size_ch ?_; go_simp; refine hK _ ?_; clear hK K) | (refine Go.Flo.fw_calm rfl ?_ (fun K hK => ?_); (first | exact Go.Mix.wanted_none rfl | exact Go.Mix.wanted_tt rfl rfl rfl | exact Go.Mix.wanted_ff rfl rfl rfl); refine Go.Flo.quiet_load_row 67 _ rfl _ rfl _ #[.int .i8 (t 0), .int .i8 (t 1), .int .i8 (t 2), .int .i8 (t 3), .int .i8 (t 4), .int .i8 (t 5)] _ (by rintro _ ⟨i, rfl⟩; exact ((HW.out i).block _ l6).trans b6) Try.underlying67 rfl size_ch ?_; go_simp; refine hK _ ?_; clear hK K) | (refine Go.Flo.fw_loud rfl ?_ rfl (by simp) (fun wv hwv hav K hK => ?_) (fun v hv K hK => ?_); (· (first | exact Go.Mix.wanted_none rfl | exact Go.Mix.wanted_tt rfl rfl rfl | exact Go.Mix.wanted_ff rfl rfl rfl)); (· obtain ⟨iv, rfl⟩ := hwv; have hbv := HW.out iv; (first | go_big_op | go_simp); go_at_call 51; refine (Active_any 0 f f _).mono ?_; rintro e w' ⟨rfl, hb⟩; rw [hact]; exact hK _ _ (Go.Flo.owes_is _ rfl hb)); (obtain rfl := hv.is; go_simp; refine hK _ ?_; clear hK K hv)) | (first | (refine Go.Flo.fw_calm rfl ?_ (fun K hK => ?_); (first | exact Go.Mix.wanted_none rfl | exact Go.Mix.wanted_tt rfl rfl rfl | exact Go.Mix.wanted_ff rfl rfl rfl); go_big_quiet_op; refine hK _ ?_; clear hK K) | (refine Go.Flo.fw_skip ?_ (fun K hK => ?_); (first | exact Go.Mix.wanted_tf rfl rfl rfl | exact Go.Mix.wanted_ft rfl rfl rfl); go_simp; refine hK _ ?_; clear hK K) | (refine Go.Flo.fw_any rfl ?_ (fun K hK => ?_); (first | exact Go.Mix.wanted_none rfl | exact Go.Mix.wanted_tt rfl rfl rfl | exact Go.Mix.wanted_ff rfl rfl rfl); go_simp; (try (go_ints; try go_simp)); refine hK _ ?_; clear hK K)))
                    refine Go.Flo.fw_nil ?_
                    intro we hwwe hfwe huwe
                    refine Go.Flo.tw_nil ?_
                    obtain ⟨iend, hiend⟩ := hwwe
                    have hbwe := HW.out iend
                    rw [← hiend] at hbwe
                    clear hiend iend huwe
                    have HE1 := Lib.hid (HE.out.step hbwe)
                    clear hfwe HJ HW hne hbwe b5 b6 b19 l5 l6 l19 he1 he2 he3 he4 HE
                    clear W I
                    go_wp2
                    go_meet
                    case rel => exact ⟨rfl, HE1.out⟩
                  | false =>
                    have hs2 : sameC t f = false := by
                      cases h : sameC t f with
                      | false => rfl
                      | true => rw [sameC_iff] at h; have := (sameC_iff f t).2 h.symm; rw [hs1] at this; cases this
                    skip
                    obtain ⟨I, W, hne, hWI, hIW⟩ := Go.Mix.family (fun v => Below wr2.heap.size wr2 v) (Below.refl _ _)
                    have HJ := Lib.hid hIW
                    have HW := Lib.hid hWI
                    clear hWI hIW
                    refine Go.Flo.wp_region (fun w' => ∃ i, w' = W i) 25 [Go.Flo.Spec.is (.agg #[.int .i8 (f 0), .int .i8 (f 1), .int .i8 (f 2), .int .i8 (f 3), .int .i8 (f 4), .int .i8 (f 5)]), Go.Flo.Spec.is (.agg #[.int .i8 (f 0), .int .i8 (f 1), .int .i8 (f 2), .int .i8 (f 3), .int .i8 (f 4), .int .i8 (f 5)]), Go.Flo.Spec.is (.agg #[.int .i8 (f 0), .int .i8 (f 1), .int .i8 (f 2), .int .i8 (f 3), .int .i8 (f 4), .int .i8 (f 5)])] (by kernel_rfl) (by kernel_rfl) (by decide) (by rintro _ w' ⟨i, rfl⟩ hb; exact HJ.out _ ((HW.out i).trans (hb.mono (HW.out i).size))) (HJ.out _ (Below.refl _ _).drew) ?_
                    simp only [Go.Flo.pair, Go.Mix.calm, List.take, List.drop, if_true, Bool.false_eq_true, if_false, Nat.reduceAdd, Nat.reduceSub]
                    have he1 : ∀ w, (binOp .neq 67 (.agg #[.int .i8 (f 0), .int .i8 (f 1), .int .i8 (f 2), .int .i8 (f 3), .int .i8 (f 4), .int .i8 (f 5)]) (.agg #[.int .i8 (f 0), .int .i8 (f 1), .int .i8 (f 2), .int .i8 (f 3), .int .i8 (f 4), .int .i8 (f 5)])).run Try.prog w = .ok (.bool (!sameC f f)) w := fun w => neqCh HC.out.1 HC.out.1 w
                    have he2 : ∀ w, (binOp .neq 67 (.agg #[.int .i8 (f 0), .int .i8 (f 1), .int .i8 (f 2), .int .i8 (f 3), .int .i8 (f 4), .int .i8 (f 5)]) (.agg #[.int .i8 (t 0), .int .i8 (t 1), .int .i8 (t 2), .int .i8 (t 3), .int .i8 (t 4), .int .i8 (t 5)])).run Try.prog w = .ok (.bool (!sameC f t)) w := fun w => neqCh HC.out.1 HC.out.2 w
                    have he3 : ∀ w, (binOp .eql 67 (.agg #[.int .i8 (f 0), .int .i8 (f 1), .int .i8 (f 2), .int .i8 (f 3), .int .i8 (f 4), .int .i8 (f 5)]) (.agg #[.int .i8 (t 0), .int .i8 (t 1), .int .i8 (t 2), .int .i8 (t 3), .int .i8 (t 4), .int .i8 (t 5)])).run Try.prog w = .ok (.bool (sameC f t)) w := fun w => eqlCh HC.out.1 HC.out.2 w
                    have he4 : ∀ w, (binOp .neq 67 (.agg #[.int .i8 (f 0), .int .i8 (f 1), .int .i8 (f 2), .int .i8 (f 3), .int .i8 (f 4), .int .i8 (f 5)]) (.agg #[.int .i8 (t 0), .int .i8 (t 1), .int .i8 (t 2), .int .i8 (t 3), .int .i8 (t 4), .int .i8 (t 5)])).run Try.prog w = .ok (.bool (!sameC f t)) w := fun w => neqCh HC.out.1 HC.out.2 w
                    simp only [sameC_refl, hs1, hs2, Bool.not_true, Bool.not_false] at he1 he2 he3 he4
                    repeat (first | (refine Go.Flo.fw_calm rfl ?_ (fun K hK => ?_); (first | exact Go.Mix.wanted_none rfl | exact Go.Mix.wanted_tt rfl rfl rfl | exact Go.Mix.wanted_ff rfl rfl rfl); refine Go.Flo.quiet_load_row 96 _ rfl _ rfl _ #[.int .u8 0, .int .i8 (f 0), .int .i8 (f 1), .int .i8 (f 2), .int .i8 (f 3), .int .i8 (f 4), .int .i8 (f 5), .int .i8 (f 0), .int .i8 (f 1), .int .i8 (f 2), .int .i8 (f 3), .int .i8 (f 4), .int .i8 (f 5)] _ (by rintro _ ⟨i, rfl⟩; exact ((HW.out i).block _ l19).trans b19) Try.underlying96 rfl size_tn ?_; go_simp; refine hK _ ?_; clear hK K) | (refine Go.Flo.fw_calm rfl ?_ (fun K hK => ?_); (first | exact Go.Mix.wanted_none rfl | exact Go.Mix.wanted_tt rfl rfl rfl | exact Go.Mix.wanted_ff rfl rfl rfl); refine Go.Flo.quiet_load_row 67 _ rfl _ rfl _ #[.int .i8 (f 0), .int .i8 (f 1), .int .i8 (f 2), .int .i8 (f 3), .int .i8 (f 4), .int .i8 (f 5)] _ (by rintro _ ⟨i, rfl⟩; exact ((HW.out i).block _ l5).trans b5) Try.underlying67 rfl size_ch ?_; go_simp; refine hK _ ?_; clear hK K) | (refine Go.Flo.fw_calm rfl ?_ (fun K hK => ?_); (first | exact Go.Mix.wanted_none rfl | exact Go.Mix.wanted_tt rfl rfl rfl | exact Go.Mix.wanted_ff rfl rfl rfl); refine Go.Flo.quiet_load_row 67 _ rfl _ rfl _ #[.int .i8 (t 0), .int .i8 (t 1), .int .i8 (t 2), .int .i8 (t 3), .int .i8 (t 4), .int .i8 (t 5)] _ (by rintro _ ⟨i, rfl⟩; exact ((HW.out i).block _ l6).trans b6) Try.underlying67 rfl size_ch ?_; go_simp; refine hK _ ?_; clear hK K) | (refine Go.Flo.fw_loud rfl ?_ rfl (by simp) (fun wv hwv hav K hK => ?_) (fun v hv K hK => ?_); (· (first | exact Go.Mix.wanted_none rfl | exact Go.Mix.wanted_tt rfl rfl rfl | exact Go.Mix.wanted_ff rfl rfl rfl)); (· obtain ⟨iv, rfl⟩ := hwv; have hbv := HW.out iv; (first | go_big_op | go_simp); go_at_call 51; refine (Active_any 0 f f _).mono ?_; rintro e w' ⟨rfl, hb⟩; rw [hact]; exact hK _ _ (Go.Flo.owes_is _ rfl hb)); (obtain rfl := hv.is; go_simp; refine hK _ ?_; clear hK K hv)) | (first | (refine Go.Flo.fw_calm rfl ?_ (fun K hK => ?_); (first | exact Go.Mix.wanted_none rfl | exact Go.Mix.wanted_tt rfl rfl rfl | exact Go.Mix.wanted_ff rfl rfl rfl); go_big_quiet_op; refine hK _ ?_; clear hK K) | (refine Go.Flo.fw_skip ?_ (fun K hK => ?_); (first | exact Go.Mix.wanted_tf rfl rfl rfl | exact Go.Mix.wanted_ft rfl rfl rfl); go_simp; refine hK _ ?_; clear hK K) | (refine Go.Flo.fw_any rfl ?_ (fun K hK => ?_); (first | exact Go.Mix.wanted_none rfl | exact Go.Mix.wanted_tt rfl rfl rfl | exact Go.Mix.wanted_ff rfl rfl rfl); go_simp; (try (go_ints; try go_simp)); refine hK _ ?_; clear hK K)))
                    refine Go.Flo.fw_nil ?_
                    intro we hwwe hfwe huwe
                    refine Go.Flo.tw_nil ?_
                    obtain ⟨iend, hiend⟩ := hwwe
                    have hbwe := HW.out iend
                    rw [← hiend] at hbwe
                    clear hiend iend huwe
                    have HE1 := Lib.hid (HE.out.step hbwe)
                    clear hfwe HJ HW hne hbwe b5 b6 b19 l5 l6 l19 he1 he2 he3 he4 HE
                    clear W I
                    go_wp2
                    go_meet
                    case rel => exact ⟨rfl, HE1.out⟩
                case rest =>
                  obtain ⟨rfl, hE⟩ := hcut
                  obtain ⟨wr3, hwr3⟩ : ∃ wr3, wr3 = wc := ⟨_, rfl⟩
                  rw [← hwr3] at hE ⊢
                  have HE := Lib.hid hE
                  clear hE hwr3
                  skip
                  skip
                  have c3 := cell_of_row _ g20 3 _ _ _ HE.out.b20
                  have hqn : ((q : Int) != 0) = true := by simp only [bne_iff_ne]; have := HQ0.out; omega
                  have hqu : lessS q u = 0 := by rw [HQ.out]; exact and_less hu1
                  have hoe : lessS u uf = onlyS t f := by rw [HU.out.1, HU.out.2]; rfl
                  have b5 := HE.out.st.b5
                  have b6 := HE.out.st.b6
                  have b19 := HE.out.b19
                  have b20 := HE.out.b20
                  have l5 := box_lt b5
                  have l6 := box_lt b6
                  have l19 := box_lt b19
                  have l20 := box_lt b20
                  have hol : onlyS t f < 65536 := lessS_lt (unitsS_lt t 6)
                  obtain ⟨oo, hoo⟩ : ∃ oo, oo = onlyS t f := ⟨_, rfl⟩
                  have HOO := Lib.hid hoo
                  have HQU := Lib.hid hqu
                  have HOE := Lib.hid hoe
                  rw [← hoo] at hol
                  clear hqu hoe hoo
                  go_upto_region 21 with fail
                  clear c3 hqn
                  obtain ⟨I, W, hne, hWI, hIW⟩ := Go.Mix.family (fun v => Below wr3.heap.size wr3 v) (Below.refl _ _)
                  have HJ := Lib.hid hIW
                  have HW := Lib.hid hWI
                  clear hWI hIW
                  refine Go.Flo.wp_region (fun w' => ∃ i, w' = W i) 27 [Go.Flo.Spec.is (.bool false), Go.Flo.Spec.is (.agg #[.int .i8 (f 0), .int .i8 (f 1), .int .i8 (f 2), .int .i8 (f 3), .int .i8 (f 4), .int .i8 (f 5)]), Go.Flo.Spec.is (.int .u16 (u : Nat)), Go.Flo.Spec.is (.bool true), Go.Flo.Spec.is (.int .u16 (u : Nat)), Go.Flo.Spec.is (.int .u16 (uf : Nat)), Go.Flo.Spec.is (.int .u16 (oo : Nat)), Go.Flo.Spec.is (.bool true)] (by kernel_rfl) (by kernel_rfl) (by decide) (by rintro _ w' ⟨i, rfl⟩ hb; exact HJ.out _ ((HW.out i).trans (hb.mono (HW.out i).size))) (HJ.out _ (Below.refl _ _).drew) ?_
                  simp only [Go.Flo.pair, Go.Mix.calm, List.take, List.drop, if_true, Bool.false_eq_true, if_false, Nat.reduceAdd, Nat.reduceSub]
                  have he1 : ∀ w, (binOp .eql 67 (.agg #[.int .i8 (f 0), .int .i8 (f 1), .int .i8 (f 2), .int .i8 (f 3), .int .i8 (f 4), .int .i8 (f 5)]) (.agg #[.int .i8 (f 0), .int .i8 (f 1), .int .i8 (f 2), .int .i8 (f 3), .int .i8 (f 4), .int .i8 (f 5)])).run Try.prog w = .ok (.bool true) w := fun w => by rw [eqlCh HC.out.1 HC.out.1, sameC_refl]
                  have y0 : ∀ i, (W i).cell? ⟨g20, 1, none⟩ = some (.slice ya yl yc) := fun i => ((HW.out i).cell (p := ⟨g20, 1, none⟩) l20).trans (cell_of_row _ _ 1 _ _ _ b20)
                  have y3 : ∀ i, (W i).cell? ⟨g20, 3, none⟩ = some (.int .u16 (q : Nat)) := fun i => ((HW.out i).cell (p := ⟨g20, 3, none⟩) l20).trans (cell_of_row _ _ 3 _ _ _ b20)
                  repeat (first | (refine Go.Flo.fw_calm rfl ?_ (fun K hK => ?_); (first | exact Go.Mix.wanted_none rfl | exact Go.Mix.wanted_tt rfl rfl rfl | exact Go.Mix.wanted_ff rfl rfl rfl); refine Go.Flo.quiet_load_row 96 _ rfl _ rfl _ #[.int .u8 0, .int .i8 (f 0), .int .i8 (f 1), .int .i8 (f 2), .int .i8 (f 3), .int .i8 (f 4), .int .i8 (f 5), .int .i8 (f 0), .int .i8 (f 1), .int .i8 (f 2), .int .i8 (f 3), .int .i8 (f 4), .int .i8 (f 5)] _ (by rintro _ ⟨i, rfl⟩; exact ((HW.out i).block _ l19).trans b19) Try.underlying96 rfl size_tn ?_; go_simp; refine hK _ ?_; clear hK K) | (refine Go.Flo.fw_calm rfl ?_ (fun K hK => ?_); (first | exact Go.Mix.wanted_none rfl | exact Go.Mix.wanted_tt rfl rfl rfl | exact Go.Mix.wanted_ff rfl rfl rfl); refine Go.Flo.quiet_load_row 67 _ rfl _ rfl _ #[.int .i8 (f 0), .int .i8 (f 1), .int .i8 (f 2), .int .i8 (f 3), .int .i8 (f 4), .int .i8 (f 5)] _ (by rintro _ ⟨i, rfl⟩; exact ((HW.out i).block _ l5).trans b5) Try.underlying67 rfl size_ch ?_; go_simp; refine hK _ ?_; clear hK K) | (refine Go.Flo.fw_calm rfl ?_ (fun K hK => ?_); (first | exact Go.Mix.wanted_none rfl | exact Go.Mix.wanted_tt rfl rfl rfl | exact Go.Mix.wanted_ff rfl rfl rfl); refine Go.Flo.quiet_load_row 67 _ rfl _ rfl _ #[.int .i8 (t 0), .int .i8 (t 1), .int .i8 (t 2), .int .i8 (t 3), .int .i8 (t 4), .int .i8 (t 5)] _ (by rintro _ ⟨i, rfl⟩; exact ((HW.out i).block _ l6).trans b6) Try.underlying67 rfl size_ch ?_; go_simp; refine hK _ ?_; clear hK K) | (refine Go.Flo.fw_loud rfl ?_ rfl (by simp) (fun wv hwv hav K hK => ?_) (fun v hv K hK => ?_); (· (first | exact Go.Mix.wanted_none rfl | exact Go.Mix.wanted_tt rfl rfl rfl | exact Go.Mix.wanted_ff rfl rfl rfl)); (· obtain ⟨iv, rfl⟩ := hwv; have hbv := HW.out iv; (first | go_big_op | go_simp); go_at_call 52; refine (Busy_any 0 f f _).mono ?_; rintro e w' ⟨rfl, hb⟩; skip; exact hK _ _ (Go.Flo.owes_is _ rfl hb)); (obtain rfl := hv.is; go_simp; refine hK _ ?_; clear hK K hv)) | (refine Go.Flo.fw_loud rfl ?_ rfl (by simp) (fun wv hwv hav K hK => ?_) (fun v hv K hK => ?_); (· (first | exact Go.Mix.wanted_none rfl | exact Go.Mix.wanted_tt rfl rfl rfl | exact Go.Mix.wanted_ff rfl rfl rfl)); (· obtain ⟨iv, rfl⟩ := hwv; have hbv := HW.out iv; (first | go_big_op | go_simp); go_at_call 51; refine (Active_any 0 f f _).mono ?_; rintro e w' ⟨rfl, hb⟩; rw [actC_same]; exact hK _ _ (Go.Flo.owes_is _ rfl hb)); (obtain rfl := hv.is; go_simp; refine hK _ ?_; clear hK K hv)) | (refine Go.Flo.fw_loud rfl ?_ rfl (by simp) (fun wv hwv hav K hK => ?_) (fun v hv K hK => ?_); (· (first | exact Go.Mix.wanted_none rfl | exact Go.Mix.wanted_tt rfl rfl rfl | exact Go.Mix.wanted_ff rfl rfl rfl)); (· obtain ⟨iv, rfl⟩ := hwv; have hbv := HW.out iv; (first | go_big_op | go_simp); go_at_call 34; refine (Units_any t _ HC.out.2).mono ?_; rintro e w' ⟨rfl, hb⟩; rw [← HU.out.1]; exact hK _ _ (Go.Flo.owes_is _ rfl hb)); (obtain rfl := hv.is; go_simp; refine hK _ ?_; clear hK K hv)) | (first | (refine Go.Flo.fw_calm rfl ?_ (fun K hK => ?_); (first | exact Go.Mix.wanted_none rfl | exact Go.Mix.wanted_tt rfl rfl rfl | exact Go.Mix.wanted_ff rfl rfl rfl); go_big_quiet_op; refine hK _ ?_; clear hK K) | (refine Go.Flo.fw_skip ?_ (fun K hK => ?_); (first | exact Go.Mix.wanted_tf rfl rfl rfl | exact Go.Mix.wanted_ft rfl rfl rfl); go_simp; refine hK _ ?_; clear hK K) | (refine Go.Flo.fw_any rfl ?_ (fun K hK => ?_); (first | exact Go.Mix.wanted_none rfl | exact Go.Mix.wanted_tt rfl rfl rfl | exact Go.Mix.wanted_ff rfl rfl rfl); go_simp; (try (go_ints; try go_simp)); refine hK _ ?_; clear hK K)))
                  refine Go.Flo.fw_loud rfl ?_ rfl (by simp) (fun wv hwv hav K hK => ?_) (fun v hv K hK => ?_)
                  · (first | exact Go.Mix.wanted_none rfl | exact Go.Mix.wanted_tt rfl rfl rfl | exact Go.Mix.wanted_ff rfl rfl rfl)
                  · obtain ⟨iv, rfl⟩ := hwv
                    have hbv := HW.out iv
                    (first | go_big_op | go_simp)
                    go_at_call 57
                    refine (Within_any q u _ hql hu1).mono ?_
                    rintro e w' ⟨rfl, rfl⟩
                    rw [decide_eq_true HQU.out]
                    exact hK _ _ (Go.Flo.owes_is _ rfl (Below.refl _ _))
                  obtain rfl := hv.is
                  go_simp
                  refine hK _ ?_
                  clear hK K hv
                  repeat (first | (refine Go.Flo.fw_calm rfl ?_ (fun K hK => ?_); (first | exact Go.Mix.wanted_none rfl | exact Go.Mix.wanted_tt rfl rfl rfl | exact Go.Mix.wanted_ff rfl rfl rfl); refine Go.Flo.quiet_load_row 67 _ rfl _ rfl _ #[.int .i8 (f 0), .int .i8 (f 1), .int .i8 (f 2), .int .i8 (f 3), .int .i8 (f 4), .int .i8 (f 5)] _ (by rintro _ ⟨i, rfl⟩; exact ((HW.out i).block _ l5).trans b5) Try.underlying67 rfl size_ch ?_; go_simp; refine hK _ ?_; clear hK K) | (refine Go.Flo.fw_calm rfl ?_ (fun K hK => ?_); (first | exact Go.Mix.wanted_none rfl | exact Go.Mix.wanted_tt rfl rfl rfl | exact Go.Mix.wanted_ff rfl rfl rfl); refine Go.Flo.quiet_load_row 67 _ rfl _ rfl _ #[.int .i8 (t 0), .int .i8 (t 1), .int .i8 (t 2), .int .i8 (t 3), .int .i8 (t 4), .int .i8 (t 5)] _ (by rintro _ ⟨i, rfl⟩; exact ((HW.out i).block _ l6).trans b6) Try.underlying67 rfl size_ch ?_; go_simp; refine hK _ ?_; clear hK K) | (first | (refine Go.Flo.fw_calm rfl ?_ (fun K hK => ?_); (first | exact Go.Mix.wanted_none rfl | exact Go.Mix.wanted_tt rfl rfl rfl | exact Go.Mix.wanted_ff rfl rfl rfl); go_big_quiet_op; refine hK _ ?_; clear hK K) | (refine Go.Flo.fw_skip ?_ (fun K hK => ?_); (first | exact Go.Mix.wanted_tf rfl rfl rfl | exact Go.Mix.wanted_ft rfl rfl rfl); go_simp; refine hK _ ?_; clear hK K) | (refine Go.Flo.fw_any rfl ?_ (fun K hK => ?_); (first | exact Go.Mix.wanted_none rfl | exact Go.Mix.wanted_tt rfl rfl rfl | exact Go.Mix.wanted_ff rfl rfl rfl); go_simp; (try (go_ints; try go_simp)); refine hK _ ?_; clear hK K)))
                  (refine Go.Flo.fw_loud rfl ?_ rfl (by simp) (fun wv hwv hav K hK => ?_) (fun v hv K hK => ?_); (· (first | exact Go.Mix.wanted_none rfl | exact Go.Mix.wanted_tt rfl rfl rfl | exact Go.Mix.wanted_ff rfl rfl rfl)); (· obtain ⟨iv, rfl⟩ := hwv; have hbv := HW.out iv; (first | go_big_op | go_simp); go_at_call 56; refine (rUnits_any t _ HC.out.2).mono ?_; rintro e w' ⟨rfl, hb⟩; rw [← HU.out.1]; exact hK _ _ (Go.Flo.owes_is _ rfl hb)); (obtain rfl := hv.is; go_simp; refine hK _ ?_; clear hK K hv))
                  repeat (first | (refine Go.Flo.fw_calm rfl ?_ (fun K hK => ?_); (first | exact Go.Mix.wanted_none rfl | exact Go.Mix.wanted_tt rfl rfl rfl | exact Go.Mix.wanted_ff rfl rfl rfl); refine Go.Flo.quiet_load_row 67 _ rfl _ rfl _ #[.int .i8 (f 0), .int .i8 (f 1), .int .i8 (f 2), .int .i8 (f 3), .int .i8 (f 4), .int .i8 (f 5)] _ (by rintro _ ⟨i, rfl⟩; exact ((HW.out i).block _ l5).trans b5) Try.underlying67 rfl size_ch ?_; go_simp; refine hK _ ?_; clear hK K) | (refine Go.Flo.fw_calm rfl ?_ (fun K hK => ?_); (first | exact Go.Mix.wanted_none rfl | exact Go.Mix.wanted_tt rfl rfl rfl | exact Go.Mix.wanted_ff rfl rfl rfl); refine Go.Flo.quiet_load_row 67 _ rfl _ rfl _ #[.int .i8 (t 0), .int .i8 (t 1), .int .i8 (t 2), .int .i8 (t 3), .int .i8 (t 4), .int .i8 (t 5)] _ (by rintro _ ⟨i, rfl⟩; exact ((HW.out i).block _ l6).trans b6) Try.underlying67 rfl size_ch ?_; go_simp; refine hK _ ?_; clear hK K) | (first | (refine Go.Flo.fw_calm rfl ?_ (fun K hK => ?_); (first | exact Go.Mix.wanted_none rfl | exact Go.Mix.wanted_tt rfl rfl rfl | exact Go.Mix.wanted_ff rfl rfl rfl); go_big_quiet_op; refine hK _ ?_; clear hK K) | (refine Go.Flo.fw_skip ?_ (fun K hK => ?_); (first | exact Go.Mix.wanted_tf rfl rfl rfl | exact Go.Mix.wanted_ft rfl rfl rfl); go_simp; refine hK _ ?_; clear hK K) | (refine Go.Flo.fw_any rfl ?_ (fun K hK => ?_); (first | exact Go.Mix.wanted_none rfl | exact Go.Mix.wanted_tt rfl rfl rfl | exact Go.Mix.wanted_ff rfl rfl rfl); go_simp; (try (go_ints; try go_simp)); refine hK _ ?_; clear hK K)))
                  (refine Go.Flo.fw_loud rfl ?_ rfl (by simp) (fun wv hwv hav K hK => ?_) (fun v hv K hK => ?_); (· (first | exact Go.Mix.wanted_none rfl | exact Go.Mix.wanted_tt rfl rfl rfl | exact Go.Mix.wanted_ff rfl rfl rfl)); (· obtain ⟨iv, rfl⟩ := hwv; have hbv := HW.out iv; (first | go_big_op | go_simp); go_at_call 56; refine (rUnits_any f _ HC.out.1).mono ?_; rintro e w' ⟨rfl, hb⟩; rw [← HU.out.2]; exact hK _ _ (Go.Flo.owes_is _ rfl hb)); (obtain rfl := hv.is; go_simp; refine hK _ ?_; clear hK K hv))
                  refine Go.Flo.fw_loud rfl ?_ rfl (by simp) (fun wv hwv hav K hK => ?_) (fun v hv K hK => ?_)
                  · (first | exact Go.Mix.wanted_none rfl | exact Go.Mix.wanted_tt rfl rfl rfl | exact Go.Mix.wanted_ff rfl rfl rfl)
                  · obtain ⟨iv, rfl⟩ := hwv
                    have hbv := HW.out iv
                    (first | go_big_op | go_simp)
                    go_at_call 55
                    refine (rLess_any u uf _ hu1 huf1).mono ?_
                    rintro e w' ⟨rfl, rfl⟩
                    rw [HOE.out, ← HOO.out]
                    exact hK _ _ (Go.Flo.owes_is _ rfl (Below.refl _ _))
                  obtain rfl := hv.is
                  go_simp
                  refine hK _ ?_
                  clear hK K hv
                  refine Go.Flo.fw_loud rfl ?_ rfl (by simp) (fun wv hwv hav K hK => ?_) (fun v hv K hK => ?_)
                  · (first | exact Go.Mix.wanted_none rfl | exact Go.Mix.wanted_tt rfl rfl rfl | exact Go.Mix.wanted_ff rfl rfl rfl)
                  · obtain ⟨iv, rfl⟩ := hwv
                    have hbv := HW.out iv
                    (first | go_big_op | go_simp)
                    go_at_call 50
                    refine (same_tn ya yl yc _ oo _ hol (by rw [HOO.out]; exact HYL.out) (Nat.le_refl _) (by rw [HOO.out]; exact (HE.out.rd.below hbv).mono hbv.size)).mono ?_
                    rintro e w' ⟨rfl, hb⟩
                    exact hK _ _ (Go.Flo.owes_is _ rfl hb)
                  obtain rfl := hv.is
                  go_simp
                  refine hK _ ?_
                  clear hK K hv
                  (repeat (first | (refine Go.Flo.fw_calm rfl ?_ (fun K hK => ?_); (first | exact Go.Mix.wanted_none rfl | exact Go.Mix.wanted_tt rfl rfl rfl | exact Go.Mix.wanted_ff rfl rfl rfl); go_big_quiet_op; refine hK _ ?_; clear hK K) | (refine Go.Flo.fw_skip ?_ (fun K hK => ?_); (first | exact Go.Mix.wanted_tf rfl rfl rfl | exact Go.Mix.wanted_ft rfl rfl rfl); go_simp; refine hK _ ?_; clear hK K) | (refine Go.Flo.fw_any rfl ?_ (fun K hK => ?_); (first | exact Go.Mix.wanted_none rfl | exact Go.Mix.wanted_tt rfl rfl rfl | exact Go.Mix.wanted_ff rfl rfl rfl); go_simp; (try (go_ints; try go_simp)); refine hK _ ?_; clear hK K)))
                  refine Go.Flo.fw_nil ?_
                  intro we hwwe hfwe huwe
                  refine Go.Flo.tw_nil ?_
                  obtain ⟨iend, hiend⟩ := hwwe
                  have hbwe := HW.out iend
                  rw [← hiend] at hbwe
                  clear hiend iend huwe
                  have HB := Lib.hid ((HE.out.st.step hbwe).be)
                  clear hfwe HJ HW hne hbwe b5 b6 b19 b20 he1 HE
                  clear y0 y3 W I
                  go_wp2_with fail
                  go_ret
                  exact ⟨rfl, HB.out⟩
              --]A
          · have q1 : (p == 1) = false := by simp [hp1]
            have q1' : (p != 1) = true := by simpa using hp1
            rw [q1']
            clear q1'
            by_cases hp2 : p = 2
            · have HN := Lib.hid (show nxtR p f t wv lv = ⟨3, f, t, 0, false, 0⟩ by rw [hp2]; rfl)
              clear hp hp1 hp2
              --[D
              skip
              have b11 := HS.out.b11
              have hal : Below wr.heap.size wr (wr.alloc (.cells #[.int .u8 p, .int .i8 (f 0), .int .i8 (f 1), .int .i8 (f 2), .int .i8 (f 3), .int .i8 (f 4), .int .i8 (f 5), .int .i8 (t 0), .int .i8 (t 1), .int .i8 (t 2), .int .i8 (t 3), .int .i8 (t 4), .int .i8 (t 5)] 96)) := by repeat' (first | (with_reducible exact Below.refl _ _) | (with_reducible assumption) | (with_reducible refine Below.setCell ?_ ?_ _) | (with_reducible refine Below.alloc ?_ ?_ _) | (with_reducible refine Below.drew ?_) | (with_reducible refine Below.drawsN ?_ _) | go_size)
              have h18 := heap_alloc_new wr (.cells #[.int .u8 p, .int .i8 (f 0), .int .i8 (f 1), .int .i8 (f 2), .int .i8 (f 3), .int .i8 (f 4), .int .i8 (f 5), .int .i8 (t 0), .int .i8 (t 1), .int .i8 (t 2), .int .i8 (t 3), .int .i8 (t 4), .int .i8 (t 5)] 96)
              obtain ⟨w1, hw1⟩ : ∃ w1, wr.alloc (.cells #[.int .u8 p, .int .i8 (f 0), .int .i8 (f 1), .int .i8 (f 2), .int .i8 (f 3), .int .i8 (f 4), .int .i8 (f 5), .int .i8 (t 0), .int .i8 (t 1), .int .i8 (t 2), .int .i8 (t 3), .int .i8 (t 4), .int .i8 (t 5)] 96) = w1 := ⟨_, rfl⟩
              rw [hw1] at h18 hal
              have HS1 := Lib.hid (HS.out.step hal)
              clear HS hal
              go_upto_region 15 with (first | ((with_reducible show wpList _ _ _ (_ :: _) _ _); refine wpList_load_row rfl 96 _ rfl _ rfl _ _ _ _ b11 Try.underlying96 rfl (by exact size_tn) ?_; (try go_simp)) | ((with_reducible show wpList _ _ _ (_ :: _) _ _); refine wpList_store_row rfl 96 _ _ rfl _ _ rfl rfl _ _ (heap_alloc_new _ _) (by exact size_tn) (by rfl) (by simp [Value.oneCell']) ?_; rw [World.setRow_alloc_new, hw1]))
              clear hw1 b11
              obtain ⟨g18, hg18⟩ : ∃ g, g = wr.heap.size := ⟨_, rfl⟩
              rw [← hg18] at h18 ⊢
              clear hg18
              have b11 := HS1.out.b11
              go_wp2_with (((with_reducible show wpList _ _ _ (_ :: _) _ _); refine wpList_load_row rfl 96 _ rfl _ rfl _ _ _ _ b11 Try.underlying96 rfl (by exact size_tn) ?_; (try go_simp)))
              go_at_call 47
              refine (Next_det _ HC.out.1 HC.out.2 hwv hlv HN.out).mono ?_
              rintro e w2 ⟨v, rfl, hown, hb⟩
              obtain ⟨ya, yc, rfl⟩ := own_formZ hown
              obtain ⟨yl, hyl⟩ : ∃ yl, yl = (upTo 0 16).length := ⟨_, rfl⟩
              rw [← hyl] at hown ⊢
              have hrd := rd_of_own (f := zv (upTo 0 16)) hown (fun i hi => zl_zv (upTo 0 16) i (by omega))
              skip
              obtain ⟨q1, q2, q3, q4, q5⟩ := pairBox w2 #[.int .u8 3, .int .i8 (f 0), .int .i8 (f 1), .int .i8 (f 2), .int .i8 (f 3), .int .i8 (f 4), .int .i8 (f 5), .int .i8 (t 0), .int .i8 (t 1), .int .i8 (t 2), .int .i8 (t 3), .int .i8 (t 4), .int .i8 (t 5)] #[.slice none 0 0, .slice ya yl yc, .bool false, .int .u16 0]
              obtain ⟨wA, hwA⟩ : ∃ x, (w2.alloc (.cells #[.int .u8 0, .int .i8 0, .int .i8 0, .int .i8 0, .int .i8 0, .int .i8 0, .int .i8 0, .int .i8 0, .int .i8 0, .int .i8 0, .int .i8 0, .int .i8 0, .int .i8 0] 96)).alloc (.cells #[.slice none 0 0, .slice none 0 0, .bool false, .int .u16 0] 98) = x := ⟨_, rfl⟩
              rw [hwA] at q1 q2 q3 q4 q5
              obtain ⟨wB, hwB⟩ : ∃ x, wA.setRow w2.heap.size #[.int .u8 3, .int .i8 (f 0), .int .i8 (f 1), .int .i8 (f 2), .int .i8 (f 3), .int .i8 (f 4), .int .i8 (f 5), .int .i8 (t 0), .int .i8 (t 1), .int .i8 (t 2), .int .i8 (t 3), .int .i8 (t 4), .int .i8 (t 5)] = x := ⟨_, rfl⟩
              rw [hwB] at q2 q3 q4 q5
              obtain ⟨wC, hwC⟩ : ∃ x, wB.setRow (w2.heap.size + 1) #[.slice none 0 0, .slice ya yl yc, .bool false, .int .u16 0] = x := ⟨_, rfl⟩
              rw [hwC] at q3 q4 q5
              have h182 := box_below (box_below h18 hb (box_lt h18)) q5 (box_lt (box_below h18 hb (box_lt h18)))
              have HE := Lib.hid (show HoE w wC g5 g6 g11 w2.heap.size (w2.heap.size + 1) f t p 3 f t ya yl yc false 0 (upTo 0 16) from ⟨(HS1.out.step hb).step q5, q3, q4, (hrd.below q5).mono q5.size⟩)
              have HYL := Lib.hid hyl
              clear hown hb hyl hrd HS1 q3 q4 q5 b11 h18
              go_upto_region 16 with (first | ((with_reducible show wpList _ _ _ (_ :: _) _ _); (try rw [hwA]); refine wpList_store_row rfl 96 _ _ rfl _ _ rfl rfl _ _ q1 (by exact size_tn) (by rfl) (by simp [Value.oneCell']) ?_; rw [hwB]) | ((with_reducible show wpList _ _ _ (_ :: _) _ _); refine wpList_store_row rfl 98 _ _ rfl _ _ rfl rfl _ _ q2 (by exact size_st) (by rfl) (by simp [Value.oneCell']) ?_; rw [hwC]))
              clear hwA hwB hwC q1 q2
              obtain ⟨g20, hg20⟩ : ∃ g, g = w2.heap.size + 1 := ⟨_, rfl⟩
              rw [← hg20] at HE ⊢
              obtain ⟨g19, hg19⟩ : ∃ g, g = w2.heap.size := ⟨_, rfl⟩
              rw [← hg19] at HE ⊢
              clear hg19 hg20
              have c18 := ldTp h182
              clear h182
              skip
              go_upto_region 18 with fail
              obtain ⟨wr2, hwr2⟩ : ∃ wr2, wr2 = wC := ⟨_, rfl⟩
              rw [← hwr2] at HE ⊢
              clear c18 hwr2
              skip
              go_upto_region 18 with fail
              go_cut [102] (fun v wx => v = .bool false ∧ HoE w wx g5 g6 g11 g19 g20 f t p 3 f t ya yl yc false 0 (upTo 0 16))
              case first =>
                have b5 := HE.out.st.b5
                have b6 := HE.out.st.b6
                have b19 := HE.out.b19
                have l5 := box_lt b5
                have l6 := box_lt b6
                have l19 := box_lt b19
                have hact : actC 3 f t = t := rfl
                cases hs1 : sameC f t with
                | true =>
                  have hs2 : sameC t f = true := by rw [sameC_iff] at hs1 ⊢; exact hs1.symm
                  skip
                  obtain ⟨I, W, hne, hWI, hIW⟩ := Go.Mix.family (fun v => Below wr2.heap.size wr2 v) (Below.refl _ _)
                  have HJ := Lib.hid hIW
                  have HW := Lib.hid hWI
                  clear hWI hIW
                  refine Go.Flo.wp_region (fun w' => ∃ i, w' = W i) 25 [Go.Flo.Spec.is (.agg #[.int .i8 (t 0), .int .i8 (t 1), .int .i8 (t 2), .int .i8 (t 3), .int .i8 (t 4), .int .i8 (t 5)]), Go.Flo.Spec.is (.agg #[.int .i8 (t 0), .int .i8 (t 1), .int .i8 (t 2), .int .i8 (t 3), .int .i8 (t 4), .int .i8 (t 5)]), Go.Flo.Spec.is (.agg #[.int .i8 (t 0), .int .i8 (t 1), .int .i8 (t 2), .int .i8 (t 3), .int .i8 (t 4), .int .i8 (t 5)])] (by kernel_rfl) (by kernel_rfl) (by decide) (by rintro _ w' ⟨i, rfl⟩ hb; exact HJ.out _ ((HW.out i).trans (hb.mono (HW.out i).size))) (HJ.out _ (Below.refl _ _).drew) ?_
                  simp only [Go.Flo.pair, Go.Mix.calm, List.take, List.drop, if_true, Bool.false_eq_true, if_false, Nat.reduceAdd, Nat.reduceSub]
                  have he1 : ∀ w, (binOp .neq 67 (.agg #[.int .i8 (t 0), .int .i8 (t 1), .int .i8 (t 2), .int .i8 (t 3), .int .i8 (t 4), .int .i8 (t 5)]) (.agg #[.int .i8 (f 0), .int .i8 (f 1), .int .i8 (f 2), .int .i8 (f 3), .int .i8 (f 4), .int .i8 (f 5)])).run Try.prog w = .ok (.bool (!sameC t f)) w := fun w => neqCh HC.out.2 HC.out.1 w
                  have he2 : ∀ w, (binOp .neq 67 (.agg #[.int .i8 (t 0), .int .i8 (t 1), .int .i8 (t 2), .int .i8 (t 3), .int .i8 (t 4), .int .i8 (t 5)]) (.agg #[.int .i8 (t 0), .int .i8 (t 1), .int .i8 (t 2), .int .i8 (t 3), .int .i8 (t 4), .int .i8 (t 5)])).run Try.prog w = .ok (.bool (!sameC t t)) w := fun w => neqCh HC.out.2 HC.out.2 w
                  have he3 : ∀ w, (binOp .eql 67 (.agg #[.int .i8 (t 0), .int .i8 (t 1), .int .i8 (t 2), .int .i8 (t 3), .int .i8 (t 4), .int .i8 (t 5)]) (.agg #[.int .i8 (t 0), .int .i8 (t 1), .int .i8 (t 2), .int .i8 (t 3), .int .i8 (t 4), .int .i8 (t 5)])).run Try.prog w = .ok (.bool (sameC t t)) w := fun w => eqlCh HC.out.2 HC.out.2 w
                  have he4 : ∀ w, (binOp .neq 67 (.agg #[.int .i8 (f 0), .int .i8 (f 1), .int .i8 (f 2), .int .i8 (f 3), .int .i8 (f 4), .int .i8 (f 5)]) (.agg #[.int .i8 (t 0), .int .i8 (t 1), .int .i8 (t 2), .int .i8 (t 3), .int .i8 (t 4), .int .i8 (t 5)])).run Try.prog w = .ok (.bool (!sameC f t)) w := fun w => neqCh HC.out.1 HC.out.2 w
                  simp only [sameC_refl, hs1, hs2, Bool.not_true, Bool.not_false] at he1 he2 he3 he4
                  repeat (first | (refine Go.Flo.fw_calm rfl ?_ (fun K hK => ?_); (first | exact Go.Mix.wanted_none rfl | exact Go.Mix.wanted_tt rfl rfl rfl | exact Go.Mix.wanted_ff rfl rfl rfl); refine Go.Flo.quiet_load_row 96 _ rfl _ rfl _ #[.int .u8 3, .int .i8 (f 0), .int .i8 (f 1), .int .i8 (f 2), .int .i8 (f 3), .int .i8 (f 4), .int .i8 (f 5), .int .i8 (t 0), .int .i8 (t 1), .int .i8 (t 2), .int .i8 (t 3), .int .i8 (t 4), .int .i8 (t 5)] _ (by rintro _ ⟨i, rfl⟩; exact ((HW.out i).block _ l19).trans b19) Try.underlying96 rfl size_tn ?_; go_simp; refine hK _ ?_; clear hK K) | (refine Go.Flo.fw_calm rfl ?_ (fun K hK => ?_); (first | exact Go.Mix.wanted_none rfl | exact Go.Mix.wanted_tt rfl rfl rfl | exact Go.Mix.wanted_ff rfl rfl rfl); refine Go.Flo.quiet_load_row 67 _ rfl _ rfl _ #[.int .i8 (f 0), .int .i8 (f 1), .int .i8 (f 2), .int .i8 (f 3), .int .i8 (f 4), .int .i8 (f 5)] _ (by rintro _ ⟨i, rfl⟩; exact ((HW.out i).block _ l5).trans b5) Try.underlying67 rfl size_ch ?_; go_simp; refine hK _ ?_; clear hK K) | (refine Go.Flo.fw_calm rfl ?_ (fun K hK => ?_); (first | exact Go.Mix.wanted_none rfl | exact Go.Mix.wanted_tt rfl rfl rfl | exact Go.Mix.wanted_ff rfl rfl rfl); refine Go.Flo.quiet_load_row 67 _ rfl _ rfl _ #[.int .i8 (t 0), .int .i8 (t 1), .int .i8 (t 2), .int .i8 (t 3), .int .i8 (t 4), .int .i8 (t 5)] _ (by rintro _ ⟨i, rfl⟩; exact ((HW.out i).block _ l6).trans b6) Try.underlying67 rfl size_ch ?_; go_simp; refine hK _ ?_; clear hK K) | (refine Go.Flo.fw_loud rfl ?_ rfl (by simp) (fun wv hwv hav K hK => ?_) (fun v hv K hK => ?_); (· (first | exact Go.Mix.wanted_none rfl | exact Go.Mix.wanted_tt rfl rfl rfl | exact Go.Mix.wanted_ff rfl rfl rfl)); (· obtain ⟨iv, rfl⟩ := hwv; have hbv := HW.out iv; (first | go_big_op | go_simp); go_at_call 51; refine (Active_any 3 f t _).mono ?_; rintro e w' ⟨rfl, hb⟩; rw [hact]; exact hK _ _ (Go.Flo.owes_is _ rfl hb)); (obtain rfl := hv.is; go_simp; refine hK _ ?_; clear hK K hv)) | (first | (refine Go.Flo.fw_calm rfl ?_ (fun K hK => ?_); (first | exact Go.Mix.wanted_none rfl | exact Go.Mix.wanted_tt rfl rfl rfl | exact Go.Mix.wanted_ff rfl rfl rfl); go_big_quiet_op; refine hK _ ?_; clear hK K) | (refine Go.Flo.fw_skip ?_ (fun K hK => ?_); (first | exact Go.Mix.wanted_tf rfl rfl rfl | exact Go.Mix.wanted_ft rfl rfl rfl); go_simp; refine hK _ ?_; clear hK K) | (refine Go.Flo.fw_any rfl ?_ (fun K hK => ?_); (first | exact Go.Mix.wanted_none rfl | exact Go.Mix.wanted_tt rfl rfl rfl | exact Go.Mix.wanted_ff rfl rfl rfl); go_simp; (try (go_ints; try go_simp)); refine hK _ ?_; clear hK K)))
                  refine Go.Flo.fw_nil ?_
                  intro we hwwe hfwe huwe
                  refine Go.Flo.tw_nil ?_
                  obtain ⟨iend, hiend⟩ := hwwe
                  have hbwe := HW.out iend
                  rw [← hiend] at hbwe
                  clear hiend iend huwe
                  have HE1 := Lib.hid (HE.out.step hbwe)
                  clear hfwe HJ HW hne hbwe b5 b6 b19 l5 l6 l19 he1 he2 he3 he4 HE
                  clear W I
                  go_wp2
                  go_meet
                  case rel => exact ⟨rfl, HE1.out⟩
                | false =>
                  have hs2 : sameC t f = false := by
                    cases h : sameC t f with
                    | false => rfl
                    | true => rw [sameC_iff] at h; have := (sameC_iff f t).2 h.symm; rw [hs1] at this; cases this
                  skip
                  obtain ⟨I, W, hne, hWI, hIW⟩ := Go.Mix.family (fun v => Below wr2.heap.size wr2 v) (Below.refl _ _)
                  have HJ := Lib.hid hIW
                  have HW := Lib.hid hWI
                  clear hWI hIW
                  refine Go.Flo.wp_region (fun w' => ∃ i, w' = W i) 25 [Go.Flo.Spec.is (.agg #[.int .i8 (t 0), .int .i8 (t 1), .int .i8 (t 2), .int .i8 (t 3), .int .i8 (t 4), .int .i8 (t 5)]), Go.Flo.Spec.is (.agg #[.int .i8 (t 0), .int .i8 (t 1), .int .i8 (t 2), .int .i8 (t 3), .int .i8 (t 4), .int .i8 (t 5)]), Go.Flo.Spec.is (.agg #[.int .i8 (t 0), .int .i8 (t 1), .int .i8 (t 2), .int .i8 (t 3), .int .i8 (t 4), .int .i8 (t 5)])] (by kernel_rfl) (by kernel_rfl) (by decide) (by rintro _ w' ⟨i, rfl⟩ hb; exact HJ.out _ ((HW.out i).trans (hb.mono (HW.out i).size))) (HJ.out _ (Below.refl _ _).drew) ?_
                  simp only [Go.Flo.pair, Go.Mix.calm, List.take, List.drop, if_true, Bool.false_eq_true, if_false, Nat.reduceAdd, Nat.reduceSub]
                  have he1 : ∀ w, (binOp .neq 67 (.agg #[.int .i8 (t 0), .int .i8 (t 1), .int .i8 (t 2), .int .i8 (t 3), .int .i8 (t 4), .int .i8 (t 5)]) (.agg #[.int .i8 (f 0), .int .i8 (f 1), .int .i8 (f 2), .int .i8 (f 3), .int .i8 (f 4), .int .i8 (f 5)])).run Try.prog w = .ok (.bool (!sameC t f)) w := fun w => neqCh HC.out.2 HC.out.1 w
                  have he2 : ∀ w, (binOp .neq 67 (.agg #[.int .i8 (t 0), .int .i8 (t 1), .int .i8 (t 2), .int .i8 (t 3), .int .i8 (t 4), .int .i8 (t 5)]) (.agg #[.int .i8 (t 0), .int .i8 (t 1), .int .i8 (t 2), .int .i8 (t 3), .int .i8 (t 4), .int .i8 (t 5)])).run Try.prog w = .ok (.bool (!sameC t t)) w := fun w => neqCh HC.out.2 HC.out.2 w
                  have he3 : ∀ w, (binOp .eql 67 (.agg #[.int .i8 (t 0), .int .i8 (t 1), .int .i8 (t 2), .int .i8 (t 3), .int .i8 (t 4), .int .i8 (t 5)]) (.agg #[.int .i8 (t 0), .int .i8 (t 1), .int .i8 (t 2), .int .i8 (t 3), .int .i8 (t 4), .int .i8 (t 5)])).run Try.prog w = .ok (.bool (sameC t t)) w := fun w => eqlCh HC.out.2 HC.out.2 w
                  have he4 : ∀ w, (binOp .neq 67 (.agg #[.int .i8 (f 0), .int .i8 (f 1), .int .i8 (f 2), .int .i8 (f 3), .int .i8 (f 4), .int .i8 (f 5)]) (.agg #[.int .i8 (t 0), .int .i8 (t 1), .int .i8 (t 2), .int .i8 (t 3), .int .i8 (t 4), .int .i8 (t 5)])).run Try.prog w = .ok (.bool (!sameC f t)) w := fun w => neqCh HC.out.1 HC.out.2 w
                  simp only [sameC_refl, hs1, hs2, Bool.not_true, Bool.not_false] at he1 he2 he3 he4
                  repeat (first | (refine Go.Flo.fw_calm rfl ?_ (fun K hK => ?_); (first | exact Go.Mix.wanted_none rfl | exact Go.Mix.wanted_tt rfl rfl rfl | exact Go.Mix.wanted_ff rfl rfl rfl); refine Go.Flo.quiet_load_row 96 _ rfl _ rfl _ #[.int .u8 3, .int .i8 (f 0), .int .i8 (f 1), .int .i8 (f 2), .int .i8 (f 3), .int .i8 (f 4), .int .i8 (f 5), .int .i8 (t 0), .int .i8 (t 1), .int .i8 (t 2), .int .i8 (t 3), .int .i8 (t 4), .int .i8 (t 5)] _ (by rintro _ ⟨i, rfl⟩; exact ((HW.out i).block _ l19).trans b19) Try.underlying96 rfl size_tn ?_; go_simp; refine hK _ ?_; clear hK K) | (refine Go.Flo.fw_calm rfl ?_ (fun K hK => ?_); (first | exact Go.Mix.wanted_none rfl | exact Go.Mix.wanted_tt rfl rfl rfl | exact Go.Mix.wanted_ff rfl rfl rfl); refine Go.Flo.quiet_load_row 67 _ rfl _ rfl _ #[.int .i8 (f 0), .int .i8 (f 1), .int .i8 (f 2), .int .i8 (f 3), .int .i8 (f 4), .int .i8 (f 5)] _ (by rintro _ ⟨i, rfl⟩; exact ((HW.out i).block _ l5).trans b5) Try.underlying67 rfl size_ch ?_; go_simp; refine hK _ ?_; clear hK K) | (refine Go.Flo.fw_calm rfl ?_ (fun K hK => ?_); (first | exact Go.Mix.wanted_none rfl | exact Go.Mix.wanted_tt rfl rfl rfl | exact Go.Mix.wanted_ff rfl rfl rfl); refine Go.Flo.quiet_load_row 67 _ rfl _ rfl _ #[.int .i8 (t 0), .int .i8 (t 1), .int .i8 (t 2), .int .i8 (t 3), .int .i8 (t 4), .int .i8 (t 5)] _ (by rintro _ ⟨i, rfl⟩; exact ((HW.out i).block _ l6).trans b6) Try.underlying67 rfl size_ch ?_; go_simp; refine hK _ ?_; clear hK K) | (refine Go.Flo.fw_loud rfl ?_ rfl (by simp) (fun wv hwv hav K hK => ?_) (fun v hv K hK => ?_); (· (first | exact Go.Mix.wanted_none rfl | exact Go.Mix.wanted_tt rfl rfl rfl | exact Go.Mix.wanted_ff rfl rfl rfl)); (· obtain ⟨iv, rfl⟩ := hwv; have hbv := HW.out iv; (first | go_big_op | go_simp); go_at_call 51; refine (Active_any 3 f t _).mono ?_; rintro e w' ⟨rfl, hb⟩; rw [hact]; exact hK _ _ (Go.Flo.owes_is _ rfl hb)); (obtain rfl := hv.is; go_simp; refine hK _ ?_; clear hK K hv)) | (first | (refine Go.Flo.fw_calm rfl ?_ (fun K hK => ?_); (first | exact Go.Mix.wanted_none rfl | exact Go.Mix.wanted_tt rfl rfl rfl | exact Go.Mix.wanted_ff rfl rfl rfl); go_big_quiet_op; refine hK _ ?_; clear hK K) | (refine Go.Flo.fw_skip ?_ (fun K hK => ?_); (first | exact Go.Mix.wanted_tf rfl rfl rfl | exact Go.Mix.wanted_ft rfl rfl rfl); go_simp; refine hK _ ?_; clear hK K) | (refine Go.Flo.fw_any rfl ?_ (fun K hK => ?_); (first | exact Go.Mix.wanted_none rfl | exact Go.Mix.wanted_tt rfl rfl rfl | exact Go.Mix.wanted_ff rfl rfl rfl); go_simp; (try (go_ints; try go_simp)); refine hK _ ?_; clear hK K)))
                  refine Go.Flo.fw_nil ?_
                  intro we hwwe hfwe huwe
                  refine Go.Flo.tw_nil ?_
                  obtain ⟨iend, hiend⟩ := hwwe
                  have hbwe := HW.out iend
                  rw [← hiend] at hbwe
                  clear hiend iend huwe
                  have HE1 := Lib.hid (HE.out.step hbwe)
                  clear hfwe HJ HW hne hbwe b5 b6 b19 l5 l6 l19 he1 he2 he3 he4 HE
                  clear W I
                  go_wp2
                  go_meet
                  case rel => exact ⟨rfl, HE1.out⟩
              case rest =>
                obtain ⟨rfl, hE⟩ := hcut
                obtain ⟨wr3, hwr3⟩ : ∃ wr3, wr3 = wc := ⟨_, rfl⟩
                rw [← hwr3] at hE ⊢
                have HE := Lib.hid hE
                clear hE hwr3
                skip
                skip
                have c3 := cell_of_row _ g20 3 _ _ _ HE.out.b20
                have c2 := cell_of_row _ g20 2 _ _ _ HE.out.b20
                have b19 := HE.out.b19
                have b11 := HE.out.st.b11
                have HS9 := Lib.hid (HE.out.st.put 3 f)
                obtain ⟨w9, hw9⟩ : ∃ w9, wr3.setRow g11 #[.int .u8 3, .int .i8 (f 0), .int .i8 (f 1), .int .i8 (f 2), .int .i8 (f 3), .int .i8 (f 4), .int .i8 (f 5), .int .i8 (t 0), .int .i8 (t 1), .int .i8 (t 2), .int .i8 (t 3), .int .i8 (t 4), .int .i8 (t 5)] = w9 := ⟨_, rfl⟩
                rw [hw9] at HS9
                go_upto_region 25 with (first | ((with_reducible show wpList _ _ _ (_ :: _) _ _); refine wpList_load_row rfl 96 _ rfl _ rfl _ _ _ _ b19 Try.underlying96 rfl (by exact size_tn) ?_; (try go_simp)) | (((with_reducible show wpList _ _ _ (_ :: _) _ _); refine wpList_store_row rfl 96 _ _ rfl _ _ rfl rfl _ _ b11 (by exact size_tn) (by rfl) (by simp [Value.oneCell']) ?_); rw [hw9]))
                clear hw9 b11 b19 c2 c3
                go_wp2_with fail
                go_roundw
                case rel => exact ⟨k + 1, 3, by omega, by go_num, .inr (.inr rfl), rfl, HS9.out⟩
                case measure => simp [intOf]; omega
              --]D
            · have hp3 : p = 3 := by omega
              have HN := Lib.hid (show nxtR p f t wv lv = ⟨0, t, t, onlyS f t, true, 0⟩ by rw [hp3]; rfl)
              clear hp hp1 hp2 hp3
              --[E
              skip
              have b11 := HS.out.b11
              have hal : Below wr.heap.size wr (wr.alloc (.cells #[.int .u8 p, .int .i8 (f 0), .int .i8 (f 1), .int .i8 (f 2), .int .i8 (f 3), .int .i8 (f 4), .int .i8 (f 5), .int .i8 (t 0), .int .i8 (t 1), .int .i8 (t 2), .int .i8 (t 3), .int .i8 (t 4), .int .i8 (t 5)] 96)) := by repeat' (first | (with_reducible exact Below.refl _ _) | (with_reducible assumption) | (with_reducible refine Below.setCell ?_ ?_ _) | (with_reducible refine Below.alloc ?_ ?_ _) | (with_reducible refine Below.drew ?_) | (with_reducible refine Below.drawsN ?_ _) | go_size)
              have h18 := heap_alloc_new wr (.cells #[.int .u8 p, .int .i8 (f 0), .int .i8 (f 1), .int .i8 (f 2), .int .i8 (f 3), .int .i8 (f 4), .int .i8 (f 5), .int .i8 (t 0), .int .i8 (t 1), .int .i8 (t 2), .int .i8 (t 3), .int .i8 (t 4), .int .i8 (t 5)] 96)
              obtain ⟨w1, hw1⟩ : ∃ w1, wr.alloc (.cells #[.int .u8 p, .int .i8 (f 0), .int .i8 (f 1), .int .i8 (f 2), .int .i8 (f 3), .int .i8 (f 4), .int .i8 (f 5), .int .i8 (t 0), .int .i8 (t 1), .int .i8 (t 2), .int .i8 (t 3), .int .i8 (t 4), .int .i8 (t 5)] 96) = w1 := ⟨_, rfl⟩
              rw [hw1] at h18 hal
              have HS1 := Lib.hid (HS.out.step hal)
              clear HS hal
              go_upto_region 15 with (first | ((with_reducible show wpList _ _ _ (_ :: _) _ _); refine wpList_load_row rfl 96 _ rfl _ rfl _ _ _ _ b11 Try.underlying96 rfl (by exact size_tn) ?_; (try go_simp)) | ((with_reducible show wpList _ _ _ (_ :: _) _ _); refine wpList_store_row rfl 96 _ _ rfl _ _ rfl rfl _ _ (heap_alloc_new _ _) (by exact size_tn) (by rfl) (by simp [Value.oneCell']) ?_; rw [World.setRow_alloc_new, hw1]))
              clear hw1 b11
              obtain ⟨g18, hg18⟩ : ∃ g, g = wr.heap.size := ⟨_, rfl⟩
              rw [← hg18] at h18 ⊢
              clear hg18
              have b11 := HS1.out.b11
              go_wp2_with (((with_reducible show wpList _ _ _ (_ :: _) _ _); refine wpList_load_row rfl 96 _ rfl _ rfl _ _ _ _ b11 Try.underlying96 rfl (by exact size_tn) ?_; (try go_simp)))
              go_at_call 47
              refine (Next_det _ HC.out.1 HC.out.2 hwv hlv HN.out).mono ?_
              rintro e w2 ⟨v, rfl, hown, hb⟩
              obtain ⟨ya, yc, rfl⟩ := own_formZ hown
              obtain ⟨yl, hyl⟩ : ∃ yl, yl = (upTo (onlyS f t) 16).length := ⟨_, rfl⟩
              rw [← hyl] at hown ⊢
              have hrd := rd_of_own (f := zv (upTo (onlyS f t) 16)) hown (fun i hi => zl_zv (upTo (onlyS f t) 16) i (by omega))
              skip
              obtain ⟨q1, q2, q3, q4, q5⟩ := pairBox w2 #[.int .u8 0, .int .i8 (t 0), .int .i8 (t 1), .int .i8 (t 2), .int .i8 (t 3), .int .i8 (t 4), .int .i8 (t 5), .int .i8 (t 0), .int .i8 (t 1), .int .i8 (t 2), .int .i8 (t 3), .int .i8 (t 4), .int .i8 (t 5)] #[.slice none 0 0, .slice ya yl yc, .bool true, .int .u16 0]
              obtain ⟨wA, hwA⟩ : ∃ x, (w2.alloc (.cells #[.int .u8 0, .int .i8 0, .int .i8 0, .int .i8 0, .int .i8 0, .int .i8 0, .int .i8 0, .int .i8 0, .int .i8 0, .int .i8 0, .int .i8 0, .int .i8 0, .int .i8 0] 96)).alloc (.cells #[.slice none 0 0, .slice none 0 0, .bool false, .int .u16 0] 98) = x := ⟨_, rfl⟩
              rw [hwA] at q1 q2 q3 q4 q5
              obtain ⟨wB, hwB⟩ : ∃ x, wA.setRow w2.heap.size #[.int .u8 0, .int .i8 (t 0), .int .i8 (t 1), .int .i8 (t 2), .int .i8 (t 3), .int .i8 (t 4), .int .i8 (t 5), .int .i8 (t 0), .int .i8 (t 1), .int .i8 (t 2), .int .i8 (t 3), .int .i8 (t 4), .int .i8 (t 5)] = x := ⟨_, rfl⟩
              rw [hwB] at q2 q3 q4 q5
              obtain ⟨wC, hwC⟩ : ∃ x, wB.setRow (w2.heap.size + 1) #[.slice none 0 0, .slice ya yl yc, .bool true, .int .u16 0] = x := ⟨_, rfl⟩
              rw [hwC] at q3 q4 q5
              have h182 := box_below (box_below h18 hb (box_lt h18)) q5 (box_lt (box_below h18 hb (box_lt h18)))
              have HE := Lib.hid (show HoE w wC g5 g6 g11 w2.heap.size (w2.heap.size + 1) f t p 0 t t ya yl yc true 0 (upTo (onlyS f t) 16) from ⟨(HS1.out.step hb).step q5, q3, q4, (hrd.below q5).mono q5.size⟩)
              have HYL := Lib.hid hyl
              clear hown hb hyl hrd HS1 q3 q4 q5 b11 h18
              go_upto_region 16 with (first | ((with_reducible show wpList _ _ _ (_ :: _) _ _); (try rw [hwA]); refine wpList_store_row rfl 96 _ _ rfl _ _ rfl rfl _ _ q1 (by exact size_tn) (by rfl) (by simp [Value.oneCell']) ?_; rw [hwB]) | ((with_reducible show wpList _ _ _ (_ :: _) _ _); refine wpList_store_row rfl 98 _ _ rfl _ _ rfl rfl _ _ q2 (by exact size_st) (by rfl) (by simp [Value.oneCell']) ?_; rw [hwC]))
              clear hwA hwB hwC q1 q2
              obtain ⟨g20, hg20⟩ : ∃ g, g = w2.heap.size + 1 := ⟨_, rfl⟩
              rw [← hg20] at HE ⊢
              obtain ⟨g19, hg19⟩ : ∃ g, g = w2.heap.size := ⟨_, rfl⟩
              rw [← hg19] at HE ⊢
              clear hg19 hg20
              have c18 := ldTp h182
              clear h182
              skip
              go_upto_region 18 with fail
              obtain ⟨wr2, hwr2⟩ : ∃ wr2, wr2 = wC := ⟨_, rfl⟩
              rw [← hwr2] at HE ⊢
              clear c18 hwr2
              skip
              go_upto_region 18 with fail
              go_cut [102] (fun v wx => v = .bool false ∧ HoE w wx g5 g6 g11 g19 g20 f t p 0 t t ya yl yc true 0 (upTo (onlyS f t) 16))
              case first =>
                have b5 := HE.out.st.b5
                have b6 := HE.out.st.b6
                have b19 := HE.out.b19
                have l5 := box_lt b5
                have l6 := box_lt b6
                have l19 := box_lt b19
                have hact : actC 0 t t = t := rfl
                cases hs1 : sameC f t with
                | true =>
                  have hs2 : sameC t f = true := by rw [sameC_iff] at hs1 ⊢; exact hs1.symm
                  skip
                  obtain ⟨I, W, hne, hWI, hIW⟩ := Go.Mix.family (fun v => Below wr2.heap.size wr2 v) (Below.refl _ _)
                  have HJ := Lib.hid hIW
                  have HW := Lib.hid hWI
                  clear hWI hIW
                  refine Go.Flo.wp_region (fun w' => ∃ i, w' = W i) 25 [Go.Flo.Spec.is (.agg #[.int .i8 (t 0), .int .i8 (t 1), .int .i8 (t 2), .int .i8 (t 3), .int .i8 (t 4), .int .i8 (t 5)]), Go.Flo.Spec.is (.agg #[.int .i8 (t 0), .int .i8 (t 1), .int .i8 (t 2), .int .i8 (t 3), .int .i8 (t 4), .int .i8 (t 5)]), Go.Flo.Spec.is (.agg #[.int .i8 (t 0), .int .i8 (t 1), .int .i8 (t 2), .int .i8 (t 3), .int .i8 (t 4), .int .i8 (t 5)])] (by kernel_rfl) (by kernel_rfl) (by decide) (by rintro _ w' ⟨i, rfl⟩ hb; exact HJ.out _ ((HW.out i).trans (hb.mono (HW.out i).size))) (HJ.out _ (Below.refl _ _).drew) ?_
                  simp only [Go.Flo.pair, Go.Mix.calm, List.take, List.drop, if_true, Bool.false_eq_true, if_false, Nat.reduceAdd, Nat.reduceSub]
                  have he1 : ∀ w, (binOp .neq 67 (.agg #[.int .i8 (t 0), .int .i8 (t 1), .int .i8 (t 2), .int .i8 (t 3), .int .i8 (t 4), .int .i8 (t 5)]) (.agg #[.int .i8 (f 0), .int .i8 (f 1), .int .i8 (f 2), .int .i8 (f 3), .int .i8 (f 4), .int .i8 (f 5)])).run Try.prog w = .ok (.bool (!sameC t f)) w := fun w => neqCh HC.out.2 HC.out.1 w
                  have he2 : ∀ w, (binOp .neq 67 (.agg #[.int .i8 (t 0), .int .i8 (t 1), .int .i8 (t 2), .int .i8 (t 3), .int .i8 (t 4), .int .i8 (t 5)]) (.agg #[.int .i8 (t 0), .int .i8 (t 1), .int .i8 (t 2), .int .i8 (t 3), .int .i8 (t 4), .int .i8 (t 5)])).run Try.prog w = .ok (.bool (!sameC t t)) w := fun w => neqCh HC.out.2 HC.out.2 w
                  have he3 : ∀ w, (binOp .eql 67 (.agg #[.int .i8 (t 0), .int .i8 (t 1), .int .i8 (t 2), .int .i8 (t 3), .int .i8 (t 4), .int .i8 (t 5)]) (.agg #[.int .i8 (t 0), .int .i8 (t 1), .int .i8 (t 2), .int .i8 (t 3), .int .i8 (t 4), .int .i8 (t 5)])).run Try.prog w = .ok (.bool (sameC t t)) w := fun w => eqlCh HC.out.2 HC.out.2 w
                  have he4 : ∀ w, (binOp .neq 67 (.agg #[.int .i8 (f 0), .int .i8 (f 1), .int .i8 (f 2), .int .i8 (f 3), .int .i8 (f 4), .int .i8 (f 5)]) (.agg #[.int .i8 (t 0), .int .i8 (t 1), .int .i8 (t 2), .int .i8 (t 3), .int .i8 (t 4), .int .i8 (t 5)])).run Try.prog w = .ok (.bool (!sameC f t)) w := fun w => neqCh HC.out.1 HC.out.2 w
                  simp only [sameC_refl, hs1, hs2, Bool.not_true, Bool.not_false] at he1 he2 he3 he4
                  repeat (first | (refine Go.Flo.fw_calm rfl ?_ (fun K hK => ?_); (first | exact Go.Mix.wanted_none rfl | exact Go.Mix.wanted_tt rfl rfl rfl | exact Go.Mix.wanted_ff rfl rfl rfl); refine Go.Flo.quiet_load_row 96 _ rfl _ rfl _ #[.int .u8 0, .int .i8 (t 0), .int .i8 (t 1), .int .i8 (t 2), .int .i8 (t 3), .int .i8 (t 4), .int .i8 (t 5), .int .i8 (t 0), .int .i8 (t 1), .int .i8 (t 2), .int .i8 (t 3), .int .i8 (t 4), .int .i8 (t 5)] _ (by rintro _ ⟨i, rfl⟩; exact ((HW.out i).block _ l19).trans b19) Try.underlying96 rfl size_tn ?_; go_simp; refine hK _ ?_; clear hK K) | (refine Go.Flo.fw_calm rfl ?_ (fun K hK => ?_); (first | exact Go.Mix.wanted_none rfl | exact Go.Mix.wanted_tt rfl rfl rfl | exact Go.Mix.wanted_ff rfl rfl rfl); refine Go.Flo.quiet_load_row 67 _ rfl _ rfl _ #[.int .i8 (f 0), .int .i8 (f 1), .int .i8 (f 2), .int .i8 (f 3), .int .i8 (f 4), .int .i8 (f 5)] _ (by rintro _ ⟨i, rfl⟩; exact ((HW.out i).block _ l5).trans b5) Try.underlying67 rfl size_ch ?_; go_simp; refine hK _ ?_; clear hK K) | (refine Go.Flo.fw_calm rfl ?_ (fun K hK => ?_); (first | exact Go.Mix.wanted_none rfl | exact Go.Mix.wanted_tt rfl rfl rfl | exact Go.Mix.wanted_ff rfl rfl rfl); refine Go.Flo.quiet_load_row 67 _ rfl _ rfl _ #[.int .i8 (t 0), .int .i8 (t 1), .int .i8 (t 2), .int .i8 (t 3), .int .i8 (t 4), .int .i8 (t 5)] _ (by rintro _ ⟨i, rfl⟩; exact ((HW.out i).block _ l6).trans b6) Try.underlying67 rfl size_ch ?_; go_simp; refine hK _ ?_; clear hK K) | (refine Go.Flo.fw_loud rfl ?_ rfl (by simp) (fun wv hwv hav K hK => ?_) (fun v hv K hK => ?_); (· (first | exact Go.Mix.wanted_none rfl | exact Go.Mix.wanted_tt rfl rfl rfl | exact Go.Mix.wanted_ff rfl rfl rfl)); (· obtain ⟨iv, rfl⟩ := hwv; have hbv := HW.out iv; (first | go_big_op | go_simp); go_at_call 51; refine (Active_any 0 t t _).mono ?_; rintro e w' ⟨rfl, hb⟩; rw [hact]; exact hK _ _ (Go.Flo.owes_is _ rfl hb)); (obtain rfl := hv.is; go_simp; refine hK _ ?_; clear hK K hv)) | (first | (refine Go.Flo.fw_calm rfl ?_ (fun K hK => ?_); (first | exact Go.Mix.wanted_none rfl | exact Go.Mix.wanted_tt rfl rfl rfl | exact Go.Mix.wanted_ff rfl rfl rfl); go_big_quiet_op; refine hK _ ?_; clear hK K) | (refine Go.Flo.fw_skip ?_ (fun K hK => ?_); (first | exact Go.Mix.wanted_tf rfl rfl rfl | exact Go.Mix.wanted_ft rfl rfl rfl); go_simp; refine hK _ ?_; clear hK K) | (refine Go.Flo.fw_any rfl ?_ (fun K hK => ?_); (first | exact Go.Mix.wanted_none rfl | exact Go.Mix.wanted_tt rfl rfl rfl | exact Go.Mix.wanted_ff rfl rfl rfl); go_simp; (try (go_ints; try go_simp)); refine hK _ ?_; clear hK K)))
                  refine Go.Flo.fw_nil ?_
                  intro we hwwe hfwe huwe
                  refine Go.Flo.tw_nil ?_
                  obtain ⟨iend, hiend⟩ := hwwe
                  have hbwe := HW.out iend
                  rw [← hiend] at hbwe
                  clear hiend iend huwe
                  have HE1 := Lib.hid (HE.out.step hbwe)
                  clear hfwe HJ HW hne hbwe b5 b6 b19 l5 l6 l19 he1 he2 he3 he4 HE
                  clear W I
                  go_wp2
                  go_meet
                  case rel => exact ⟨rfl, HE1.out⟩
                | false =>
                  have hs2 : sameC t f = false := by
                    cases h : sameC t f with
                    | false => rfl
                    | true => rw [sameC_iff] at h; have := (sameC_iff f t).2 h.symm; rw [hs1] at this; cases this
                  skip
                  obtain ⟨I, W, hne, hWI, hIW⟩ := Go.Mix.family (fun v => Below wr2.heap.size wr2 v) (Below.refl _ _)
                  have HJ := Lib.hid hIW
                  have HW := Lib.hid hWI
                  clear hWI hIW
                  refine Go.Flo.wp_region (fun w' => ∃ i, w' = W i) 25 [Go.Flo.Spec.is (.agg #[.int .i8 (t 0), .int .i8 (t 1), .int .i8 (t 2), .int .i8 (t 3), .int .i8 (t 4), .int .i8 (t 5)]), Go.Flo.Spec.is (.agg #[.int .i8 (t 0), .int .i8 (t 1), .int .i8 (t 2), .int .i8 (t 3), .int .i8 (t 4), .int .i8 (t 5)]), Go.Flo.Spec.is (.agg #[.int .i8 (t 0), .int .i8 (t 1), .int .i8 (t 2), .int .i8 (t 3), .int .i8 (t 4), .int .i8 (t 5)])] (by kernel_rfl) (by kernel_rfl) (by decide) (by rintro _ w' ⟨i, rfl⟩ hb; exact HJ.out _ ((HW.out i).trans (hb.mono (HW.out i).size))) (HJ.out _ (Below.refl _ _).drew) ?_
                  simp only [Go.Flo.pair, Go.Mix.calm, List.take, List.drop, if_true, Bool.false_eq_true, if_false, Nat.reduceAdd, Nat.reduceSub]
                  have he1 : ∀ w, (binOp .neq 67 (.agg #[.int .i8 (t 0), .int .i8 (t 1), .int .i8 (t 2), .int .i8 (t 3), .int .i8 (t 4), .int .i8 (t 5)]) (.agg #[.int .i8 (f 0), .int .i8 (f 1), .int .i8 (f 2), .int .i8 (f 3), .int .i8 (f 4), .int .i8 (f 5)])).run Try.prog w = .ok (.bool (!sameC t f)) w := fun w => neqCh HC.out.2 HC.out.1 w
                  have he2 : ∀ w, (binOp .neq 67 (.agg #[.int .i8 (t 0), .int .i8 (t 1), .int .i8 (t 2), .int .i8 (t 3), .int .i8 (t 4), .int .i8 (t 5)]) (.agg #[.int .i8 (t 0), .int .i8 (t 1), .int .i8 (t 2), .int .i8 (t 3), .int .i8 (t 4), .int .i8 (t 5)])).run Try.prog w = .ok (.bool (!sameC t t)) w := fun w => neqCh HC.out.2 HC.out.2 w
                  have he3 : ∀ w, (binOp .eql 67 (.agg #[.int .i8 (t 0), .int .i8 (t 1), .int .i8 (t 2), .int .i8 (t 3), .int .i8 (t 4), .int .i8 (t 5)]) (.agg #[.int .i8 (t 0), .int .i8 (t 1), .int .i8 (t 2), .int .i8 (t 3), .int .i8 (t 4), .int .i8 (t 5)])).run Try.prog w = .ok (.bool (sameC t t)) w := fun w => eqlCh HC.out.2 HC.out.2 w
                  have he4 : ∀ w, (binOp .neq 67 (.agg #[.int .i8 (f 0), .int .i8 (f 1), .int .i8 (f 2), .int .i8 (f 3), .int .i8 (f 4), .int .i8 (f 5)]) (.agg #[.int .i8 (t 0), .int .i8 (t 1), .int .i8 (t 2), .int .i8 (t 3), .int .i8 (t 4), .int .i8 (t 5)])).run Try.prog w = .ok (.bool (!sameC f t)) w := fun w => neqCh HC.out.1 HC.out.2 w
                  simp only [sameC_refl, hs1, hs2, Bool.not_true, Bool.not_false] at he1 he2 he3 he4
                  repeat (first | (refine Go.Flo.fw_calm rfl ?_ (fun K hK => ?_); (first | exact Go.Mix.wanted_none rfl | exact Go.Mix.wanted_tt rfl rfl rfl | exact Go.Mix.wanted_ff rfl rfl rfl); refine Go.Flo.quiet_load_row 96 _ rfl _ rfl _ #[.int .u8 0, .int .i8 (t 0), .int .i8 (t 1), .int .i8 (t 2), .int .i8 (t 3), .int .i8 (t 4), .int .i8 (t 5), .int .i8 (t 0), .int .i8 (t 1), .int .i8 (t 2), .int .i8 (t 3), .int .i8 (t 4), .int .i8 (t 5)] _ (by rintro _ ⟨i, rfl⟩; exact ((HW.out i).block _ l19).trans b19) Try.underlying96 rfl size_tn ?_; go_simp; refine hK _ ?_; clear hK K) | (refine Go.Flo.fw_calm rfl ?_ (fun K hK => ?_); (first | exact Go.Mix.wanted_none rfl | exact Go.Mix.wanted_tt rfl rfl rfl | exact Go.Mix.wanted_ff rfl rfl rfl); refine Go.Flo.quiet_load_row 67 _ rfl _ rfl _ #[.int .i8 (f 0), .int .i8 (f 1), .int .i8 (f 2), .int .i8 (f 3), .int .i8 (f 4), .int .i8 (f 5)] _ (by rintro _ ⟨i, rfl⟩; exact ((HW.out i).block _ l5).trans b5) Try.underlying67 rfl size_ch ?_; go_simp; refine hK _ ?_; clear hK K) | (refine Go.Flo.fw_calm rfl ?_ (fun K hK => ?_); (first | exact Go.Mix.wanted_none rfl | exact Go.Mix.wanted_tt rfl rfl rfl | exact Go.Mix.wanted_ff rfl rfl rfl); refine Go.Flo.quiet_load_row 67 _ rfl _ rfl _ #[.int .i8 (t 0), .int .i8 (t 1), .int .i8 (t 2), .int .i8 (t 3), .int .i8 (t 4), .int .i8 (t 5)] _ (by rintro _ ⟨i, rfl⟩; exact ((HW.out i).block _ l6).trans b6) Try.underlying67 rfl size_ch ?_; go_simp; refine hK _ ?_; clear hK K) | (refine Go.Flo.fw_loud rfl ?_ rfl (by simp) (fun wv hwv hav K hK => ?_) (fun v hv K hK => ?_); (· (first | exact Go.Mix.wanted_none rfl | exact Go.Mix.wanted_tt rfl rfl rfl | exact Go.Mix.wanted_ff rfl rfl rfl)); (· obtain ⟨iv, rfl⟩ := hwv; have hbv := HW.out iv; (first | go_big_op | go_simp); go_at_call 51; refine (Active_any 0 t t _).mono ?_; rintro e w' ⟨rfl, hb⟩; rw [hact]; exact hK _ _ (Go.Flo.owes_is _ rfl hb)); (obtain rfl := hv.is; go_simp; refine hK _ ?_; clear hK K hv)) | (first | (refine Go.Flo.fw_calm rfl ?_ (fun K hK => ?_); (first | exact Go.Mix.wanted_none rfl | exact Go.Mix.wanted_tt rfl rfl rfl | exact Go.Mix.wanted_ff rfl rfl rfl); go_big_quiet_op; refine hK _ ?_; clear hK K) | (refine Go.Flo.fw_skip ?_ (fun K hK => ?_); (first | exact Go.Mix.wanted_tf rfl rfl rfl | exact Go.Mix.wanted_ft rfl rfl rfl); go_simp; refine hK _ ?_; clear hK K) | (refine Go.Flo.fw_any rfl ?_ (fun K hK => ?_); (first | exact Go.Mix.wanted_none rfl | exact Go.Mix.wanted_tt rfl rfl rfl | exact Go.Mix.wanted_ff rfl rfl rfl); go_simp; (try (go_ints; try go_simp)); refine hK _ ?_; clear hK K)))
                  refine Go.Flo.fw_nil ?_
                  intro we hwwe hfwe huwe
                  refine Go.Flo.tw_nil ?_
                  obtain ⟨iend, hiend⟩ := hwwe
                  have hbwe := HW.out iend
                  rw [← hiend] at hbwe
                  clear hiend iend huwe
                  have HE1 := Lib.hid (HE.out.step hbwe)
                  clear hfwe HJ HW hne hbwe b5 b6 b19 l5 l6 l19 he1 he2 he3 he4 HE
                  clear W I
                  go_wp2
                  go_meet
                  case rel => exact ⟨rfl, HE1.out⟩
              case rest =>
                obtain ⟨rfl, hE⟩ := hcut
                obtain ⟨wr3, hwr3⟩ : ∃ wr3, wr3 = wc := ⟨_, rfl⟩
                rw [← hwr3] at hE ⊢
                have HE := Lib.hid hE
                clear hE hwr3
                skip
                skip
                have c3 := cell_of_row _ g20 3 _ _ _ HE.out.b20
                have c2 := cell_of_row _ g20 2 _ _ _ HE.out.b20
                have hoe : lessS uf u = onlyS f t := by rw [HU.out.1, HU.out.2]; rfl
                have b5 := HE.out.st.b5
                have b6 := HE.out.st.b6
                have b19 := HE.out.b19
                have b20 := HE.out.b20
                have l5 := box_lt b5
                have l6 := box_lt b6
                have l19 := box_lt b19
                have l20 := box_lt b20
                have hol : onlyS f t < 65536 := lessS_lt (unitsS_lt f 6)
                obtain ⟨oo, hoo⟩ : ∃ oo, oo = onlyS f t := ⟨_, rfl⟩
                have HOO := Lib.hid hoo
                have HOE := Lib.hid hoe
                rw [← hoo] at hol
                clear hoe hoo
                go_upto_region 23 with fail
                clear c3 c2
                obtain ⟨I, W, hne, hWI, hIW⟩ := Go.Mix.family (fun v => Below wr3.heap.size wr3 v) (Below.refl _ _)
                have HJ := Lib.hid hIW
                have HW := Lib.hid hWI
                clear hWI hIW
                refine Go.Flo.wp_region (fun w' => ∃ i, w' = W i) 23 [Go.Flo.Spec.is (.bool false), Go.Flo.Spec.is (.agg #[.int .i8 (t 0), .int .i8 (t 1), .int .i8 (t 2), .int .i8 (t 3), .int .i8 (t 4), .int .i8 (t 5)]), Go.Flo.Spec.is (.int .u16 (uf : Nat)), Go.Flo.Spec.is (.int .u16 (u : Nat)), Go.Flo.Spec.is (.int .u16 (oo : Nat)), Go.Flo.Spec.is (.bool true)] (by kernel_rfl) (by kernel_rfl) (by decide) (by rintro _ w' ⟨i, rfl⟩ hb; exact HJ.out _ ((HW.out i).trans (hb.mono (HW.out i).size))) (HJ.out _ (Below.refl _ _).drew) ?_
                simp only [Go.Flo.pair, Go.Mix.calm, List.take, List.drop, if_true, Bool.false_eq_true, if_false, Nat.reduceAdd, Nat.reduceSub]
                have he1 : ∀ w, (binOp .eql 67 (.agg #[.int .i8 (t 0), .int .i8 (t 1), .int .i8 (t 2), .int .i8 (t 3), .int .i8 (t 4), .int .i8 (t 5)]) (.agg #[.int .i8 (t 0), .int .i8 (t 1), .int .i8 (t 2), .int .i8 (t 3), .int .i8 (t 4), .int .i8 (t 5)])).run Try.prog w = .ok (.bool true) w := fun w => by rw [eqlCh HC.out.2 HC.out.2, sameC_refl]
                have y0 : ∀ i, (W i).cell? ⟨g20, 1, none⟩ = some (.slice ya yl yc) := fun i => ((HW.out i).cell (p := ⟨g20, 1, none⟩) l20).trans (cell_of_row _ _ 1 _ _ _ b20)
                repeat (first | (refine Go.Flo.fw_calm rfl ?_ (fun K hK => ?_); (first | exact Go.Mix.wanted_none rfl | exact Go.Mix.wanted_tt rfl rfl rfl | exact Go.Mix.wanted_ff rfl rfl rfl); refine Go.Flo.quiet_load_row 96 _ rfl _ rfl _ #[.int .u8 0, .int .i8 (t 0), .int .i8 (t 1), .int .i8 (t 2), .int .i8 (t 3), .int .i8 (t 4), .int .i8 (t 5), .int .i8 (t 0), .int .i8 (t 1), .int .i8 (t 2), .int .i8 (t 3), .int .i8 (t 4), .int .i8 (t 5)] _ (by rintro _ ⟨i, rfl⟩; exact ((HW.out i).block _ l19).trans b19) Try.underlying96 rfl size_tn ?_; go_simp; refine hK _ ?_; clear hK K) | (refine Go.Flo.fw_calm rfl ?_ (fun K hK => ?_); (first | exact Go.Mix.wanted_none rfl | exact Go.Mix.wanted_tt rfl rfl rfl | exact Go.Mix.wanted_ff rfl rfl rfl); refine Go.Flo.quiet_load_row 67 _ rfl _ rfl _ #[.int .i8 (f 0), .int .i8 (f 1), .int .i8 (f 2), .int .i8 (f 3), .int .i8 (f 4), .int .i8 (f 5)] _ (by rintro _ ⟨i, rfl⟩; exact ((HW.out i).block _ l5).trans b5) Try.underlying67 rfl size_ch ?_; go_simp; refine hK _ ?_; clear hK K) | (refine Go.Flo.fw_calm rfl ?_ (fun K hK => ?_); (first | exact Go.Mix.wanted_none rfl | exact Go.Mix.wanted_tt rfl rfl rfl | exact Go.Mix.wanted_ff rfl rfl rfl); refine Go.Flo.quiet_load_row 67 _ rfl _ rfl _ #[.int .i8 (t 0), .int .i8 (t 1), .int .i8 (t 2), .int .i8 (t 3), .int .i8 (t 4), .int .i8 (t 5)] _ (by rintro _ ⟨i, rfl⟩; exact ((HW.out i).block _ l6).trans b6) Try.underlying67 rfl size_ch ?_; go_simp; refine hK _ ?_; clear hK K) | (refine Go.Flo.fw_loud rfl ?_ rfl (by simp) (fun wv hwv hav K hK => ?_) (fun v hv K hK => ?_); (· (first | exact Go.Mix.wanted_none rfl | exact Go.Mix.wanted_tt rfl rfl rfl | exact Go.Mix.wanted_ff rfl rfl rfl)); (· obtain ⟨iv, rfl⟩ := hwv; have hbv := HW.out iv; (first | go_big_op | go_simp); go_at_call 52; refine (Busy_any 0 t t _).mono ?_; rintro e w' ⟨rfl, hb⟩; skip; exact hK _ _ (Go.Flo.owes_is _ rfl hb)); (obtain rfl := hv.is; go_simp; refine hK _ ?_; clear hK K hv)) | (refine Go.Flo.fw_loud rfl ?_ rfl (by simp) (fun wv hwv hav K hK => ?_) (fun v hv K hK => ?_); (· (first | exact Go.Mix.wanted_none rfl | exact Go.Mix.wanted_tt rfl rfl rfl | exact Go.Mix.wanted_ff rfl rfl rfl)); (· obtain ⟨iv, rfl⟩ := hwv; have hbv := HW.out iv; (first | go_big_op | go_simp); go_at_call 51; refine (Active_any 0 t t _).mono ?_; rintro e w' ⟨rfl, hb⟩; rw [actC_same]; exact hK _ _ (Go.Flo.owes_is _ rfl hb)); (obtain rfl := hv.is; go_simp; refine hK _ ?_; clear hK K hv)) | (first | (refine Go.Flo.fw_calm rfl ?_ (fun K hK => ?_); (first | exact Go.Mix.wanted_none rfl | exact Go.Mix.wanted_tt rfl rfl rfl | exact Go.Mix.wanted_ff rfl rfl rfl); go_big_quiet_op; refine hK _ ?_; clear hK K) | (refine Go.Flo.fw_skip ?_ (fun K hK => ?_); (first | exact Go.Mix.wanted_tf rfl rfl rfl | exact Go.Mix.wanted_ft rfl rfl rfl); go_simp; refine hK _ ?_; clear hK K) | (refine Go.Flo.fw_any rfl ?_ (fun K hK => ?_); (first | exact Go.Mix.wanted_none rfl | exact Go.Mix.wanted_tt rfl rfl rfl | exact Go.Mix.wanted_ff rfl rfl rfl); go_simp; (try (go_ints; try go_simp)); refine hK _ ?_; clear hK K)))
                (refine Go.Flo.fw_loud rfl ?_ rfl (by simp) (fun wv hwv hav K hK => ?_) (fun v hv K hK => ?_); (· (first | exact Go.Mix.wanted_none rfl | exact Go.Mix.wanted_tt rfl rfl rfl | exact Go.Mix.wanted_ff rfl rfl rfl)); (· obtain ⟨iv, rfl⟩ := hwv; have hbv := HW.out iv; (first | go_big_op | go_simp); go_at_call 56; refine (rUnits_any f _ HC.out.1).mono ?_; rintro e w' ⟨rfl, hb⟩; rw [← HU.out.2]; exact hK _ _ (Go.Flo.owes_is _ rfl hb)); (obtain rfl := hv.is; go_simp; refine hK _ ?_; clear hK K hv))
                repeat (first | (refine Go.Flo.fw_calm rfl ?_ (fun K hK => ?_); (first | exact Go.Mix.wanted_none rfl | exact Go.Mix.wanted_tt rfl rfl rfl | exact Go.Mix.wanted_ff rfl rfl rfl); refine Go.Flo.quiet_load_row 67 _ rfl _ rfl _ #[.int .i8 (f 0), .int .i8 (f 1), .int .i8 (f 2), .int .i8 (f 3), .int .i8 (f 4), .int .i8 (f 5)] _ (by rintro _ ⟨i, rfl⟩; exact ((HW.out i).block _ l5).trans b5) Try.underlying67 rfl size_ch ?_; go_simp; refine hK _ ?_; clear hK K) | (refine Go.Flo.fw_calm rfl ?_ (fun K hK => ?_); (first | exact Go.Mix.wanted_none rfl | exact Go.Mix.wanted_tt rfl rfl rfl | exact Go.Mix.wanted_ff rfl rfl rfl); refine Go.Flo.quiet_load_row 67 _ rfl _ rfl _ #[.int .i8 (t 0), .int .i8 (t 1), .int .i8 (t 2), .int .i8 (t 3), .int .i8 (t 4), .int .i8 (t 5)] _ (by rintro _ ⟨i, rfl⟩; exact ((HW.out i).block _ l6).trans b6) Try.underlying67 rfl size_ch ?_; go_simp; refine hK _ ?_; clear hK K) | (first | (refine Go.Flo.fw_calm rfl ?_ (fun K hK => ?_); (first | exact Go.Mix.wanted_none rfl | exact Go.Mix.wanted_tt rfl rfl rfl | exact Go.Mix.wanted_ff rfl rfl rfl); go_big_quiet_op; refine hK _ ?_; clear hK K) | (refine Go.Flo.fw_skip ?_ (fun K hK => ?_); (first | exact Go.Mix.wanted_tf rfl rfl rfl | exact Go.Mix.wanted_ft rfl rfl rfl); go_simp; refine hK _ ?_; clear hK K) | (refine Go.Flo.fw_any rfl ?_ (fun K hK => ?_); (first | exact Go.Mix.wanted_none rfl | exact Go.Mix.wanted_tt rfl rfl rfl | exact Go.Mix.wanted_ff rfl rfl rfl); go_simp; (try (go_ints; try go_simp)); refine hK _ ?_; clear hK K)))
                (refine Go.Flo.fw_loud rfl ?_ rfl (by simp) (fun wv hwv hav K hK => ?_) (fun v hv K hK => ?_); (· (first | exact Go.Mix.wanted_none rfl | exact Go.Mix.wanted_tt rfl rfl rfl | exact Go.Mix.wanted_ff rfl rfl rfl)); (· obtain ⟨iv, rfl⟩ := hwv; have hbv := HW.out iv; (first | go_big_op | go_simp); go_at_call 56; refine (rUnits_any t _ HC.out.2).mono ?_; rintro e w' ⟨rfl, hb⟩; rw [← HU.out.1]; exact hK _ _ (Go.Flo.owes_is _ rfl hb)); (obtain rfl := hv.is; go_simp; refine hK _ ?_; clear hK K hv))
                refine Go.Flo.fw_loud rfl ?_ rfl (by simp) (fun wv hwv hav K hK => ?_) (fun v hv K hK => ?_)
                · (first | exact Go.Mix.wanted_none rfl | exact Go.Mix.wanted_tt rfl rfl rfl | exact Go.Mix.wanted_ff rfl rfl rfl)
                · obtain ⟨iv, rfl⟩ := hwv
                  have hbv := HW.out iv
                  (first | go_big_op | go_simp)
                  go_at_call 55
                  refine (rLess_any uf u _ huf1 hu1).mono ?_
                  rintro e w' ⟨rfl, rfl⟩
                  rw [HOE.out, ← HOO.out]
                  exact hK _ _ (Go.Flo.owes_is _ rfl (Below.refl _ _))
                obtain rfl := hv.is
                go_simp
                refine hK _ ?_
                clear hK K hv
                refine Go.Flo.fw_loud rfl ?_ rfl (by simp) (fun wv hwv hav K hK => ?_) (fun v hv K hK => ?_)
                · (first | exact Go.Mix.wanted_none rfl | exact Go.Mix.wanted_tt rfl rfl rfl | exact Go.Mix.wanted_ff rfl rfl rfl)
                · obtain ⟨iv, rfl⟩ := hwv
                  have hbv := HW.out iv
                  (first | go_big_op | go_simp)
                  go_at_call 50
                  refine (same_tn ya yl yc _ oo _ hol (by rw [HOO.out]; exact HYL.out) (Nat.le_refl _) (by rw [HOO.out]; exact (HE.out.rd.below hbv).mono hbv.size)).mono ?_
                  rintro e w' ⟨rfl, hb⟩
                  exact hK _ _ (Go.Flo.owes_is _ rfl hb)
                obtain rfl := hv.is
                go_simp
                refine hK _ ?_
                clear hK K hv
                (repeat (first | (refine Go.Flo.fw_calm rfl ?_ (fun K hK => ?_); (first | exact Go.Mix.wanted_none rfl | exact Go.Mix.wanted_tt rfl rfl rfl | exact Go.Mix.wanted_ff rfl rfl rfl); go_big_quiet_op; refine hK _ ?_; clear hK K) | (refine Go.Flo.fw_skip ?_ (fun K hK => ?_); (first | exact Go.Mix.wanted_tf rfl rfl rfl | exact Go.Mix.wanted_ft rfl rfl rfl); go_simp; refine hK _ ?_; clear hK K) | (refine Go.Flo.fw_any rfl ?_ (fun K hK => ?_); (first | exact Go.Mix.wanted_none rfl | exact Go.Mix.wanted_tt rfl rfl rfl | exact Go.Mix.wanted_ff rfl rfl rfl); go_simp; (try (go_ints; try go_simp)); refine hK _ ?_; clear hK K)))
                refine Go.Flo.fw_nil ?_
                intro we hwwe hfwe huwe
                refine Go.Flo.tw_nil ?_
                obtain ⟨iend, hiend⟩ := hwwe
                have hbwe := HW.out iend
                rw [← hiend] at hbwe
                clear hiend iend huwe
                have HB := Lib.hid ((HE.out.st.step hbwe).be)
                clear hfwe HJ HW hne hbwe b5 b6 b19 b20 he1 HE
                clear y0 W I
                go_wp2_with fail
                go_ret
                exact ⟨rfl, HB.out⟩
              --]E
    · go_wp2_with fail
      go_ret
      exact ⟨rfl, HS.out.be⟩
end Go.Proofs.Ytboojcahflkkmaa
