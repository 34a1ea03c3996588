/- CrcShows -/
import Derived.Test.YtikhlhdjaladgaaLaw05
import Derived.Test.YtikhlhdjaladgaaCrcBurst
import Derived.RegionTactic
import Derived.ChangeAlike
namespace Go.Proofs.Ytikhlhdjaladgaa
open Go.RowKit Go.Own
set_option linter.unusedVariables false
set_option linter.unusedSimpArgs false

theorem ret_true05w {b : Bool} (h : b = true) : Ending.returned (.bool b) = .returned (.bool true) := by rw [h]
theorem own_below {w w' : World} {base : Nat} {e : TypeId} {v : Value} {m : Nat} {xs : List Value} (h : w.ownsRow base e 1 v m xs) (hb : Below w.heap.size w w') : w'.ownsRow base e 1 v m xs := by
  obtain ⟨h1, h2 | ⟨g, cap, cur, hv, hg, hh, hr⟩⟩ := h
  · exact ⟨h1, .inl h2⟩
  · exact ⟨h1, .inr ⟨g, cap, cur, hv, hg, heap_below hb hh, hr⟩⟩
theorem own_far {w : World} {base g m c i : Nat} {e : TypeId} {xs : List Value} {p : Addr} {u : Value} (h : w.ownsRow base e 1 (.slice (some ⟨g, 0, none⟩) m c) m xs) (hp : p.block ≠ g) : (w.setCell p u).ownsRow base e 1 (.slice (some ⟨g, 0, none⟩) m c) m xs := by
  obtain ⟨h1, h2 | ⟨g', cap, cur, hv, hg, hh, hr⟩⟩ := h
  · exact ⟨h1, .inl h2⟩
  · injection hv with e1 e2 e3
    injection e1 with e1
    injection e1 with e1
    subst e1
    exact ⟨h1, .inr ⟨g, cap, cur, by rw [e3], hg, (heap_setCell_other w p g u (fun e => hp e.symm)).trans hh, hr⟩⟩
theorem rightB_sum {q : List Nat} (h : 2 ≤ q.length) (hb : bytes q) : rightB q = decide (Cr.sum q = 0) := by
  have e : q = q.take (q.length - 2) ++ [q.getD (q.length - 2) 0, q.getD (q.length - 1) 0] := by
    apply List.ext_getElem?
    intro i
    by_cases h1 : i < q.length - 2
    · rw [List.getElem?_append_left (by rw [List.length_take]; omega), List.getElem?_take, if_pos h1]
    · rw [List.getElem?_append_right (by rw [List.length_take]; omega), List.length_take, show min (q.length - 2) q.length = q.length - 2 by omega]
      by_cases h2 : i = q.length - 2
      · subst h2
        rw [Nat.sub_self]
        simp only [List.getElem?_cons_zero, List.getD, List.getElem?_eq_getElem (show q.length - 2 < q.length by omega), Option.getD_some]
      · by_cases h3 : i = q.length - 1
        · subst h3
          rw [show q.length - 1 - (q.length - 2) = 1 by omega]
          simp only [List.getElem?_cons_succ, List.getElem?_cons_zero, List.getD, List.getElem?_eq_getElem (show q.length - 1 < q.length by omega), Option.getD_some]
        · rw [List.getElem?_eq_none (by omega), List.getElem?_eq_none (by simp; omega)]
  have hr := Cr.right_iff (q.take (q.length - 2)) (q.getD (q.length - 2) 0) (q.getD (q.length - 1) 0) (hb.take _) (hb.at _) (hb.at _)
  rw [← e] at hr
  unfold rightB
  rw [Bool.eq_iff_iff]
  simp only [decide_eq_true_eq]
  rw [hr]
  exact ⟨fun h => h.2, fun h' => ⟨h, h'⟩⟩

set_option maxRecDepth 100000 in
set_option maxHeartbeats 4000000 in
theorem walk_CrcShows (a0 : Option Addr) (len0 cap0 : Nat) (z : List Int) (at_ turn i_ j_ : Int) (w : World) (w0 : IsRow .u8 w a0 len0 cap0 z) (wat : (Lit.int .u16 at_).wf = true) (wt : (Lit.int .u16 turn).wf = true) (wi : (Lit.int .u16 i_).wf = true) (wj : (Lit.int .u16 j_).wf = true) :
    Calls Try.prog 5 #[.slice a0 len0 cap0, .int .u16 at_, .int .u16 turn, .int .u16 i_, .int .u16 j_] w fun e w' => e = .returned (.bool true) ∧ Below w.heap.size w w' := by
  obtain ⟨l0, hl0, hb0, hr0⟩ := isRow_rd w0
  obtain ⟨at0, at1⟩ := bounds_u16 wat
  obtain ⟨t0, t1⟩ := bounds_u16 wt
  obtain ⟨i0, i1⟩ := bounds_u16 wi
  obtain ⟨j0, j1⟩ := bounds_u16 wj
  obtain ⟨att, rfl⟩ := Int.eq_ofNat_of_zero_le at0
  obtain ⟨tn, rfl⟩ := Int.eq_ofNat_of_zero_le t0
  obtain ⟨xi, rfl⟩ := Int.eq_ofNat_of_zero_le i0
  obtain ⟨yj, rfl⟩ := Int.eq_ofNat_of_zero_le j0
  have hz := zero_tab
  have HR0 := Lib.hid hr0
  have HL0 := Lib.hid hl0
  have h1 := hr0.le
  have h2 := hr0.top
  unfold maxLen at h2
  clear wat wt wi wj w0 hr0 hl0
  go_enter Try.func5, Try.ntmps5
  go_wp2_with (go_at_call 10; refine (awake05 _).mono ?_; rintro e w1 ⟨rfl, hb1⟩)
  go_at_call 11
  refine (Cut_any a0 len0 cap0 l0 300 _ HL0.out ((HR0.out.below hb1).mono hb1.size) (by omega)).mono ?_
  rintro e w2 ⟨v, rfl, hown, hb2⟩
  obtain ⟨l, hl⟩ : ∃ l, l = l0.take 300 := ⟨_, rfl⟩
  have hlb : bytes l := by rw [hl]; exact hb0.take 300
  obtain ⟨m, hm⟩ : ∃ m, m = min 300 len0 := ⟨_, rfl⟩
  have hlm : l.length = m := by rw [hl, hm]; exact bytes_take HL0.out
  have hm2 : m ≤ 300 := by omega
  rw [← hl, ← hm] at hown
  obtain ⟨a, c, rfl⟩ := own_form hown
  have hr := rd_of_own hown (fun i hi => bl_at l (by omega))
  have hB2 := hb1.trans (hb2.mono hb1.size)
  have HLM := Lib.hid hlm
  have HR2 := Lib.hid hr
  clear hl hm hown hr hlm
  go_wp2_with fail
  go_at_call 12
  refine (Make_any _).mono ?_
  rintro e w3 ⟨rfl, hb3⟩
  have hB3 := hB2.trans (hb3.mono hB2.size)
  have HR3 := Lib.hid (rd_grow HR2.out hb3)
  clear HR2 hB2 hb1 hb2 hb3
  go_wp2_with (refine wpList_store_row rfl 27 _ _ rfl w3.heap.size tabV rfl rfl 27 (rowV 0) (heap_alloc_new _ _) size_tab' (by rw [rowV_size, tabV_size]) tabV_one ?_; rw [World.setRow_alloc_new])
  have hT := IsTab.new w3
  obtain ⟨w4, hw4⟩ : ∃ w4, w4 = w3.alloc (.cells tabV 27) := ⟨_, rfl⟩
  have hb4 : Below w3.heap.size w3 w4 := by rw [hw4]; exact (Below.refl _ _).alloc (Nat.le_refl _) _
  obtain ⟨gt, hgt⟩ : ∃ gt, gt = w3.heap.size := ⟨_, rfl⟩
  have hg4 : gt < w4.heap.size := by rw [hw4, hgt]; simp
  have hB4 := hB3.trans (hb4.mono hB3.size)
  have HR4 := Lib.hid (rd_grow HR3.out hb4)
  rw [← hw4, ← hgt] at hT
  rw [← hw4, ← hgt]
  clear hw4 hgt HR3 hb4 hB3 hz
  have hwb := whole_bytes hlb
  have hwl := whole_len l
  rw [HLM.out] at hwl
  have HWL := Lib.hid hwl
  have HGO := Lib.hid (goes0 l hlb)
  clear hwl
  obtain ⟨I, W, hne, hWI, hIW⟩ := Go.Mix.family (fun v => Below w4.heap.size w4 v) (Below.refl _ _)
  have HJ := Lib.hid hIW
  have HW := Lib.hid hWI
  clear hWI hIW
  refine Go.Mix.wp_region (fun w' => ∃ i, w' = W i) (by kernel_rfl) (by kernel_rfl) (HJ.out _ (Below.refl _ _).drew) ?_
  simp only []
  (refine Go.Mix.walk_calm rfl ?_ (fun K hK => ?_); (first | exact Go.Mix.wanted_none rfl | exact Go.Mix.wanted_tt rfl rfl rfl | exact Go.Mix.wanted_ff rfl rfl rfl); refine Go.Flo.quiet_load_row 27 _ rfl gt rfl _ _ _ (by rintro _ ⟨i, rfl⟩; exact hT.below (HW.out i) hg4) Try.underlying27 rfl size_tab' ?_; go_simp; refine hK _ ?_; clear hK K)
  (repeat (first | (refine Go.Mix.walk_calm rfl ?_ (fun K hK => ?_); (first | exact Go.Mix.wanted_none rfl | exact Go.Mix.wanted_tt rfl rfl rfl | exact Go.Mix.wanted_ff rfl rfl rfl); go_big_quiet_op; refine hK _ ?_; clear hK K) | (refine Go.Mix.walk_skip ?_ (fun K hK => ?_); (first | exact Go.Mix.wanted_tf rfl rfl rfl | exact Go.Mix.wanted_ft rfl rfl rfl); go_simp; refine hK _ ?_; clear hK K) | (refine Go.Mix.walk_loud rfl ?_ (fun K hK => ?_); (first | exact Go.Mix.wanted_none rfl | exact Go.Mix.wanted_tt rfl rfl rfl | exact Go.Mix.wanted_ff rfl rfl rfl); (first | go_big_op | go_simp); (first | (refine hK _ _ trivial ?_; clear hK K) | (fail; (try dsimp only); refine hK _ _ trivial ?_; clear hK K))) | (refine Go.Mix.walk_step (fun K hK => ?_); go_simp; (try (go_ints; try go_simp)); refine hK _ _ ?_; clear hK K)))
  have hbd : Below w4.heap.size w4 w4.drew := (Below.refl _ _).drew
  (refine Go.Mix.walk_loud rfl ?_ (fun K hK => ?_); (first | exact Go.Mix.wanted_none rfl | exact Go.Mix.wanted_tt rfl rfl rfl | exact Go.Mix.wanted_ff rfl rfl rfl); (first | go_big_op | go_simp); go_at_call 16; refine (TAppend_any a m c _ l _ HLM.out (Nat.le_refl _) (rd_grow HR4.out hbd) hlb (by omega)).mono ?_)
  rintro e w5 ⟨va, rfl, howna, hb5⟩
  have hb45 := hbd.trans hb5
  dsimp only
  (refine hK _ _ (HJ.out _ hb45) ?_; clear hK K)
  (refine Go.Mix.walk_calm rfl ?_ (fun K hK => ?_); (first | exact Go.Mix.wanted_none rfl | exact Go.Mix.wanted_tt rfl rfl rfl | exact Go.Mix.wanted_ff rfl rfl rfl); refine Go.Flo.quiet_load_row 27 _ rfl gt rfl _ _ _ (by rintro _ ⟨i, rfl⟩; exact hT.below (HW.out i) hg4) Try.underlying27 rfl size_tab' ?_; go_simp; refine hK _ ?_; clear hK K)
  (repeat (first | (refine Go.Mix.walk_calm rfl ?_ (fun K hK => ?_); (first | exact Go.Mix.wanted_none rfl | exact Go.Mix.wanted_tt rfl rfl rfl | exact Go.Mix.wanted_ff rfl rfl rfl); go_big_quiet_op; refine hK _ ?_; clear hK K) | (refine Go.Mix.walk_skip ?_ (fun K hK => ?_); (first | exact Go.Mix.wanted_tf rfl rfl rfl | exact Go.Mix.wanted_ft rfl rfl rfl); go_simp; refine hK _ ?_; clear hK K) | (refine Go.Mix.walk_loud rfl ?_ (fun K hK => ?_); (first | exact Go.Mix.wanted_none rfl | exact Go.Mix.wanted_tt rfl rfl rfl | exact Go.Mix.wanted_ff rfl rfl rfl); (first | go_big_op | go_simp); (first | (refine hK _ _ trivial ?_; clear hK K) | (fail; (try dsimp only); refine hK _ _ trivial ?_; clear hK K))) | (refine Go.Mix.walk_step (fun K hK => ?_); go_simp; (try (go_ints; try go_simp)); refine hK _ _ ?_; clear hK K)))
  (refine Go.Mix.walk_loud rfl ?_ (fun K hK => ?_); (first | exact Go.Mix.wanted_none rfl | exact Go.Mix.wanted_tt rfl rfl rfl | exact Go.Mix.wanted_ff rfl rfl rfl); (first | go_big_op | go_simp); go_at_call 16; refine (TAppend_any a m c _ l _ HLM.out (Nat.le_refl _) (rd_grow HR4.out hb45) hlb (by omega)).mono ?_)
  rintro e w6 ⟨vb, rfl, hownb, hb6⟩
  dsimp only
  (refine hK _ _ (HJ.out _ (hb45.trans (hb6.mono hb45.size))) ?_; clear hK K)
  (repeat (first | (refine Go.Mix.walk_calm rfl ?_ (fun K hK => ?_); (first | exact Go.Mix.wanted_none rfl | exact Go.Mix.wanted_tt rfl rfl rfl | exact Go.Mix.wanted_ff rfl rfl rfl); go_big_quiet_op; refine hK _ ?_; clear hK K) | (refine Go.Mix.walk_skip ?_ (fun K hK => ?_); (first | exact Go.Mix.wanted_tf rfl rfl rfl | exact Go.Mix.wanted_ft rfl rfl rfl); go_simp; refine hK _ ?_; clear hK K) | (refine Go.Mix.walk_loud rfl ?_ (fun K hK => ?_); (first | exact Go.Mix.wanted_none rfl | exact Go.Mix.wanted_tt rfl rfl rfl | exact Go.Mix.wanted_ff rfl rfl rfl); (first | go_big_op | go_simp); (first | (refine hK _ _ trivial ?_; clear hK K) | (fail; (try dsimp only); refine hK _ _ trivial ?_; clear hK K))) | (refine Go.Mix.walk_step (fun K hK => ?_); go_simp; (try (go_ints; try go_simp)); refine hK _ _ ?_; clear hK K)))
  refine Go.Mix.walk_nil ?_
  obtain ⟨ga, ca, rfl, hga, hga5⟩ := own_some howna (by omega)
  obtain ⟨gb, cb, rfl, hgb, hgb6⟩ := own_some hownb (by omega)
  have howna := own_below howna hb6
  have hb46 := hb45.trans (hb6.mono hb45.size)
  have hB6 := hB4.trans (hb46.mono hB4.size)
  have hT6 := hT.below hb46 hg4
  have HR6 := Lib.hid (HR4.out.below hb46)
  have hga4 : w4.heap.size ≤ ga := hga
  have hab : ga < gb := by omega
  have hcam := (rd_of_own (f := bv (whole l)) howna (fun i hi => bl_at _ (by rw [HWL.out]; exact hi)))
  have hcbm := (rd_of_own (f := bv (whole l)) hownb (fun i hi => bl_at _ (by rw [HWL.out]; exact hi)))
  have ca1 := hcam.le
  have ca2 := hcam.top
  have cb1 := hcbm.le
  have cb2 := hcbm.top
  unfold maxLen at ca2 cb2
  have HOA := Lib.hid howna
  have HOB := Lib.hid (own_base (B := w4.heap.size) hownb (by have := hb45.size; omega))
  have HB46 := Lib.hid hb46
  clear howna hownb hb5 hb6 hb45 hb46 hbd hne HJ HW hcam hcbm hga hgb
  clear W I
  have hN : att % (8 * (m + 2)) < 8 * (m + 2) := Nat.mod_lt _ (by omega)
  obtain ⟨s, hs⟩ : ∃ s, s = att % (8 * (m + 2)) := ⟨_, rfl⟩
  rw [← hs] at hN
  have hsi : (att : Int) % (8 * ((m : Int) + 2)) = (s : Int) := by rw [hs]; simp
  clear hs
  go_wp2
  have HSI := Lib.hid hsi
  clear hsi
  go_loopw [33] (fun i wr => ∃ (j : Nat) (lj : List Nat) (wj : Nat), j ≤ 16 ∧ i = .int .i64 j ∧ Cr.Burst (whole l) (8 * (whole l).length - s) j lj wj ∧ wr.ownsRow w4.heap.size 5 1 (.slice (some ⟨ga, 0, none⟩) (m + 2) ca) (m + 2) (bl lj) ∧ wr.ownsRow w4.heap.size 5 1 (.slice (some ⟨gb, 0, none⟩) (m + 2) cb) (m + 2) (bl (whole l)) ∧ Below w4.heap.size w4 wr ∧ w6.heap.size ≤ wr.heap.size)
    (fun i _ => 16 - (intOf i).toNat)
  case atStart => exact ⟨0, whole l, 0, Nat.zero_le _, rfl, Cr.Burst.start hwb _, HOA.out, HOB.out, HB46.out, Nat.le_refl _⟩
  case round =>
    clear HOA HOB hB6 hT6 HR6 HB46
    obtain ⟨j, lj, wj, hj, rfl, hbu, hoa, hob, hbr, hsz⟩ := hrel
    by_cases hlt : j < 16
    · have HBU := Lib.hid hbu
      have HOA := Lib.hid hoa
      have HOB := Lib.hid hob
      have HB := Lib.hid hbr
      have hljl : lj.length = m + 2 := by rw [hbu.len]; exact HWL.out
      have hljb : bytes lj := hbu.byte
      have hsi := HSI.out
      clear hbu hob hbr
      have hy : ((tn : Int) / 2 ^ j) = ((tn / 2 ^ j : Nat) : Int) := by simp
      have hy0 : 0 ≤ (tn : Int) / 2 ^ j := by rw [hy]; exact Int.natCast_nonneg _
      have hy1 : (tn : Int) / 2 ^ j ≤ 65535 := by rw [hy]; have := Nat.div_le_self tn (2 ^ j); omega
      by_cases hc1 : s + j < 8 * (m + 2)
      · by_cases hc2 : tn / 2 ^ j % 2 = 1
        · have hbit : ((tn : Int) / 2 ^ j % 2 == 1) = true := by rw [hy]; simp; omega
          clear hy hc2
          obtain ⟨bt, hbt⟩ : ∃ bt, bt = s + j := ⟨_, rfl⟩
          obtain ⟨q, hq⟩ : ∃ q, q = bt / 8 := ⟨_, rfl⟩
          obtain ⟨r, hr⟩ : ∃ r, r = bt % 8 := ⟨_, rfl⟩
          have hqm : q < m + 2 := by omega
          have hr8 : r < 8 := by omega
          have hcell := hoa.cellAt q (by omega)
          have hfr := hoa.frozenAt q
          rw [bl_at _ (by rw [hljl]; exact hqm)] at hcell
          unfold bv at hcell
          have hx := hljb.at q
          have hset := set_bl lj q (lj.getD q 0 ^^^ Cr.mask r)
          have hml := Cr.mask_lt r
          have hflip : lj.set q (lj.getD q 0 ^^^ Cr.mask r) = Cr.flip lj (s + j) := by rw [hq, hr, hbt]; rfl
          rw [hflip] at hset
          obtain ⟨x, hx'⟩ : ∃ x, x = lj.getD q 0 := ⟨_, rfl⟩
          rw [← hx'] at hcell hx hset
          have hxor := xor8 x (Cr.mask r) hx hml
          have hdiv : ((s : Int) + (j : Int)) / 8 = (q : Int) := by omega
          have hmod : ((s : Int) + (j : Int)) % 8 = (r : Int) := by omega
          have hmask : (128 : Int) / 2 ^ r = (Cr.mask r : Int) := by unfold Cr.mask; simp
          have HSET := Lib.hid hset
          clear hoa hset hflip hx' hbt hq hr
          go_wp2
          go_region
          go_wp2
          go_roundw
          case rel =>
            obtain ⟨ho, _⟩ := HOA.out.stored q (.int .u8 ((x ^^^ Cr.mask r : Nat) : Int))
            rw [HSET.out] at ho
            exact ⟨j + 1, _, _, by omega, by go_num, HBU.out.turn hlt rfl (by rw [HWL.out]; exact hc1), ho.drew, (own_far (p := ⟨ga, q, none⟩) (i := 0) HOB.out (by show ga ≠ gb; omega)).drew, (HB.out.setCell (p := ⟨ga, q, none⟩) hga4 _).drew, by simpa using hsz⟩
          case measure => simp [intOf]; omega
        · have hbit : ((tn : Int) / 2 ^ j % 2 == 1) = false := by rw [hy]; simp; omega
          clear hy hc2 hoa
          go_wp2
          go_roundw
          case rel => exact ⟨j + 1, _, _, by omega, by go_num, HBU.out.skip hlt, HOA.out, HOB.out, HB.out, hsz⟩
          case measure => simp [intOf]; omega
      · clear hy hoa
        have hc3 : 8 * (m + 2) ≤ s + j := by omega
        go_wp2
        go_roundw
        case rel => exact ⟨j + 1, _, _, by omega, by go_num, HBU.out.skip hlt, HOA.out, HOB.out, HB.out, hsz⟩
        case measure => simp [intOf]; omega
    · obtain rfl : j = 16 := by omega
      have hra : rightB lj = decide (lj = whole l) := by
        have hljl : lj.length = m + 2 := by rw [hbu.len]; exact HWL.out
        rw [rightB_sum (by omega) hbu.byte]
        have := hbu.right HGO.out
        rw [Bool.eq_iff_iff]; simp [this]
      have hlal : lj.length = m + 2 := by rw [hbu.len]; exact HWL.out
      have hlab : bytes lj := hbu.byte
      obtain ⟨A, hA⟩ : ∃ A, A = decide (lj = whole l) := ⟨_, rfl⟩
      rw [← hA] at hra
      have HRA := Lib.hid hra
      have HA := Lib.hid hA
      have hX : xi % (8 * (m + 2)) < 8 * (m + 2) := Nat.mod_lt _ (by omega)
      have hY : yj % (8 * (m + 2)) < 8 * (m + 2) := Nat.mod_lt _ (by omega)
      obtain ⟨X, hXe⟩ : ∃ X, X = xi % (8 * (m + 2)) := ⟨_, rfl⟩
      obtain ⟨Y, hYe⟩ : ∃ Y, Y = yj % (8 * (m + 2)) := ⟨_, rfl⟩
      rw [← hXe] at hX
      rw [← hYe] at hY
      have hxi : (xi : Int) % (8 * ((m : Int) + 2)) = (X : Int) := by rw [hXe]; simp
      have hyi : (yj : Int) % (8 * ((m : Int) + 2)) = (Y : Int) := by rw [hYe]; simp
      have hmp : ((8 * ((m : Int) + 2)) == 0) = false := by rw [beq_eq_false_iff_ne]; omega
      have HOA := Lib.hid hoa
      have HOB := Lib.hid hob
      have HB := Lib.hid hbr
      clear hra hA hXe hYe hbu hoa hob hbr
      go_wp2
      go_quiet (fail)
      obtain ⟨qx, hqx⟩ : ∃ qx, qx = X / 8 := ⟨_, rfl⟩
      obtain ⟨rx, hrx⟩ : ∃ rx, rx = X % 8 := ⟨_, rfl⟩
      have hmqx : qx < m + 2 := by omega
      have h8rx : rx < 8 := by omega
      have hcxx := (HOB.out).cellAt qx (by omega)
      have hfxx := (HOB.out).frozenAt qx
      rw [bl_at _ (by rw [HWL.out]; exact hmqx)] at hcxx
      unfold bv at hcxx
      have hbxx := (hwb).at qx
      have hsxx := set_bl (whole l) qx (((whole l)).getD qx 0 ^^^ Cr.mask rx)
      have hmlxx := Cr.mask_lt rx
      have hflxx : ((whole l)).set qx (((whole l)).getD qx 0 ^^^ Cr.mask rx) = Cr.flip (whole l) X := by rw [hqx, hrx]; rfl
      rw [hflxx] at hsxx
      obtain ⟨xx, hxx⟩ : ∃ xx, xx = ((whole l)).getD qx 0 := ⟨_, rfl⟩
      rw [← hxx] at hcxx hbxx hsxx
      have hxxx := xor8 xx (Cr.mask rx) hbxx hmlxx
      have hdxx : (X : Int) / 8 = (qx : Int) := by omega
      have hrxx : (X : Int) % 8 = (rx : Int) := by omega
      have hkxx : (128 : Int) / 2 ^ rx = (Cr.mask rx : Int) := by unfold Cr.mask; simp
      have HSxx := Lib.hid hsxx
      clear hsxx hflxx hxx hqx hrx
      go_wp2
      go_region
      obtain ⟨w8, hw8⟩ : ∃ w8, w8 = (wr.drewN (nq + 1)).setCell ⟨gb, qx, none⟩ (.int .u8 ((xx ^^^ Cr.mask rx : Nat) : Int)) := ⟨_, rfl⟩
      have hob8 : w8.ownsRow w4.heap.size 5 1 (.slice (some ⟨gb, 0, none⟩) (m + 2) cb) (m + 2) (bl (Cr.flip (whole l) X)) := by
        have h : (wr.drewN (nq + 1)).ownsRow w4.heap.size 5 1 (.slice (some ⟨gb, 0, none⟩) (m + 2) cb) (m + 2) (bl (whole l)) := HOB.out
        rw [hw8, ← HSxx.out]
        exact (h.stored qx _).1
      have hoa8 : w8.ownsRow w4.heap.size 5 1 (.slice (some ⟨ga, 0, none⟩) (m + 2) ca) (m + 2) (bl lj) := by
        have h : (wr.drewN (nq + 1)).ownsRow w4.heap.size 5 1 (.slice (some ⟨ga, 0, none⟩) (m + 2) ca) (m + 2) (bl lj) := HOA.out
        rw [hw8]
        exact own_far (p := ⟨gb, qx, none⟩) (i := 0) h (by show gb ≠ ga; omega)
      have hb8 : Below w4.heap.size w4 w8 := by
        have h : Below w4.heap.size w4 (wr.drewN (nq + 1)) := ⟨HB.out.os, HB.out.tape, HB.out.output, HB.out.size, HB.out.block⟩
        rw [hw8]
        exact h.setCell (p := ⟨gb, qx, none⟩) (by show w4.heap.size ≤ gb; omega) _
      rw [← hw8]
      have HOA8 := Lib.hid hoa8
      have HOB8 := Lib.hid hob8
      have HB8 := Lib.hid hb8
      clear hw8 hcxx hfxx hbxx hmlxx hxxx hdxx hrxx hkxx HSxx hoa8 hob8 hb8
      have hfb := Cr.flip_bytes hwb X
      have hfl : (Cr.flip (whole l) X).length = m + 2 := by rw [Cr.flip_len]; exact HWL.out
      have HFL := Lib.hid hfl
      clear hfl
      obtain ⟨qy, hqy⟩ : ∃ qy, qy = Y / 8 := ⟨_, rfl⟩
      obtain ⟨ry, hry⟩ : ∃ ry, ry = Y % 8 := ⟨_, rfl⟩
      have hmqy : qy < m + 2 := by omega
      have h8ry : ry < 8 := by omega
      have hcyy := (HOB8.out).cellAt qy (by omega)
      have hfyy := (HOB8.out).frozenAt qy
      rw [bl_at _ (by rw [HFL.out]; exact hmqy)] at hcyy
      unfold bv at hcyy
      have hbyy := ((show bytes _ from hfb)).at qy
      have hsyy := set_bl (Cr.flip (whole l) X) qy (((Cr.flip (whole l) X)).getD qy 0 ^^^ Cr.mask ry)
      have hmlyy := Cr.mask_lt ry
      have hflyy : ((Cr.flip (whole l) X)).set qy (((Cr.flip (whole l) X)).getD qy 0 ^^^ Cr.mask ry) = Cr.flip (Cr.flip (whole l) X) Y := by rw [hqy, hry]; rfl
      rw [hflyy] at hsyy
      obtain ⟨yy, hyy⟩ : ∃ yy, yy = ((Cr.flip (whole l) X)).getD qy 0 := ⟨_, rfl⟩
      rw [← hyy] at hcyy hbyy hsyy
      have hxyy := xor8 yy (Cr.mask ry) hbyy hmlyy
      have hdyy : (Y : Int) / 8 = (qy : Int) := by omega
      have hryy : (Y : Int) % 8 = (ry : Int) := by omega
      have hkyy : (128 : Int) / 2 ^ ry = (Cr.mask ry : Int) := by unfold Cr.mask; simp
      have HSyy := Lib.hid hsyy
      clear hsyy hflyy hyy hqy hry
      go_wp2
      go_region
      obtain ⟨w9, hw9⟩ : ∃ w9, w9 = (w8.setCell ⟨gb, qy, none⟩ (.int .u8 ((yy ^^^ Cr.mask ry : Nat) : Int))).drew := ⟨_, rfl⟩
      have hob9 : w9.ownsRow w4.heap.size 5 1 (.slice (some ⟨gb, 0, none⟩) (m + 2) cb) (m + 2) (bl (Cr.flip (Cr.flip (whole l) X) Y)) := by
        rw [hw9, ← HSyy.out]
        exact (HOB8.out.stored qy _).1.drew
      have hoa9 : w9.ownsRow w4.heap.size 5 1 (.slice (some ⟨ga, 0, none⟩) (m + 2) ca) (m + 2) (bl lj) := by
        rw [hw9]
        exact (own_far (p := ⟨gb, qy, none⟩) (i := 0) HOA8.out (by show gb ≠ ga; omega)).drew
      have hb9 : Below w4.heap.size w4 w9 := by
        rw [hw9]
        exact (HB8.out.setCell (p := ⟨gb, qy, none⟩) (by show w4.heap.size ≤ gb; omega) _).drew
      rw [← hw9]
      have hT9 := hT.below hb9 hg4
      have hg9 := Nat.lt_of_lt_of_le hg4 hb9.size
      have HR9 := Lib.hid ((HR4.out.below hb9).mono hb9.size)
      have HA9 := Lib.hid (rd_of_own (f := bv lj) hoa9 (fun i hi => bl_at _ (by omega)))
      have hfl2 : (Cr.flip (Cr.flip (whole l) X) Y).length = m + 2 := by rw [Cr.flip_len]; exact HFL.out
      have hfb2 : bytes (Cr.flip (Cr.flip (whole l) X) Y) := Cr.flip_bytes hfb Y
      have HB9 := Lib.hid (rd_of_own (f := bv (Cr.flip (Cr.flip (whole l) X) Y)) hob9 (fun i hi => bl_at _ (by omega)))
      have hrb : rightB (Cr.flip (Cr.flip (whole l) X) Y) = decide (X = Y) := by
        rw [rightB_sum (by omega) hfb2]
        have := Cr.two_bits (whole l) hwb X Y (by rw [HWL.out]; exact hX) (by rw [HWL.out]; exact hY) (by rw [HWL.out]; omega) HGO.out
        rw [Bool.eq_iff_iff]; simp [this]
      have HRB := Lib.hid hrb
      have hB9 := hB4.trans (hb9.mono hB4.size)
      have HFL2 := Lib.hid hfl2
      have HLAL := Lib.hid hlal
      clear hw9 hob9 hoa9 hb9 hfl2 hrb hcyy hfyy hbyy hmlyy hxyy hdyy hryy hkyy HSyy HOA8 HOB8 HB8 HOA HOB HB hlal
      go_wp2
      obtain ⟨I, W, hne, hWI, hIW⟩ := Go.Mix.family (fun v => Below w9.heap.size w9 v) (Below.refl _ _)
      have HJ := Lib.hid hIW
      have HW := Lib.hid hWI
      clear hWI hIW
      refine Go.Flo.wp_region (fun w' => ∃ i, w' = W i) 19 [Go.Flo.Spec.is (.bool A), SpB (whole l), Go.Flo.Spec.is (.bool A), Go.Flo.Spec.is (.bool (decide (X = Y)))] (by kernel_rfl) (by kernel_rfl) (by decide) (by rintro _ w' ⟨i, rfl⟩ hb; exact HJ.out _ ((HW.out i).trans (hb.mono (HW.out i).size))) (HJ.out _ (Below.refl _ _).drew) ?_
      simp only [Go.Flo.pair, Go.Mix.calm, List.take, List.drop, if_true, Bool.false_eq_true, if_false, Nat.reduceAdd, Nat.reduceSub]
      (refine Go.Flo.fw_calm rfl ?_ (fun K hK => ?_); (first | exact Go.Mix.wanted_none rfl | exact Go.Mix.wanted_tt rfl rfl rfl | exact Go.Mix.wanted_ff rfl rfl rfl); refine Go.Flo.quiet_load_row 27 _ rfl gt rfl _ _ _ (by rintro _ ⟨i, rfl⟩; exact hT9.below (HW.out i) hg9) Try.underlying27 rfl size_tab' ?_; go_simp; refine hK _ ?_; clear hK K)
      (repeat (first | (refine Go.Flo.fw_calm rfl ?_ (fun K hK => ?_); (first | exact Go.Mix.wanted_none rfl | exact Go.Mix.wanted_tt rfl rfl rfl | exact Go.Mix.wanted_ff rfl rfl rfl); go_big_quiet_op; refine hK _ ?_; clear hK K) | (refine Go.Flo.fw_skip ?_ (fun K hK => ?_); (first | exact Go.Mix.wanted_tf rfl rfl rfl | exact Go.Mix.wanted_ft rfl rfl rfl); go_simp; refine hK _ ?_; clear hK K) | (refine Go.Flo.fw_any rfl ?_ (fun K hK => ?_); (first | exact Go.Mix.wanted_none rfl | exact Go.Mix.wanted_tt rfl rfl rfl | exact Go.Mix.wanted_ff rfl rfl rfl); go_simp; (try (go_ints; try go_simp)); refine hK _ ?_; clear hK K)))
      refine Go.Flo.fw_loud rfl ?_ rfl (by simp) (fun wv hwv hav K hK => ?_) (fun v hv K hK => ?_)
      · (first | exact Go.Mix.wanted_none rfl | exact Go.Mix.wanted_tt rfl rfl rfl | exact Go.Mix.wanted_ff rfl rfl rfl)
      · obtain ⟨iv, rfl⟩ := hwv
        have hbv := HW.out iv
        (first | go_big_op | go_simp)
        go_at_call 21
        refine (TRight_any _ _ _ _ lj _ HLAL.out (Nat.le_refl _) (rd_grow HA9.out hbv) hlab).mono ?_
        rintro e w' ⟨rfl, hbb⟩
        rw [HRA.out]
        exact hK _ _ (Go.Flo.owes_is _ rfl hbb)
      obtain rfl := hv.is
      go_simp
      refine hK _ ?_
      clear hK K hv
      (repeat (first | (refine Go.Flo.fw_calm rfl ?_ (fun K hK => ?_); (first | exact Go.Mix.wanted_none rfl | exact Go.Mix.wanted_tt rfl rfl rfl | exact Go.Mix.wanted_ff rfl rfl rfl); go_big_quiet_op; refine hK _ ?_; clear hK K) | (refine Go.Flo.fw_skip ?_ (fun K hK => ?_); (first | exact Go.Mix.wanted_tf rfl rfl rfl | exact Go.Mix.wanted_ft rfl rfl rfl); go_simp; refine hK _ ?_; clear hK K) | (refine Go.Flo.fw_any rfl ?_ (fun K hK => ?_); (first | exact Go.Mix.wanted_none rfl | exact Go.Mix.wanted_tt rfl rfl rfl | exact Go.Mix.wanted_ff rfl rfl rfl); go_simp; (try (go_ints; try go_simp)); refine hK _ ?_; clear hK K)))
      (refine Go.Flo.fw_calm rfl ?_ (fun K hK => ?_); (first | exact Go.Mix.wanted_none rfl | exact Go.Mix.wanted_tt rfl rfl rfl | exact Go.Mix.wanted_ff rfl rfl rfl); refine Go.Flo.quiet_load_row 27 _ rfl gt rfl _ _ _ (by rintro _ ⟨i, rfl⟩; exact hT9.below (HW.out i) hg9) Try.underlying27 rfl size_tab' ?_; go_simp; refine hK _ ?_; clear hK K)
      (repeat (first | (refine Go.Flo.fw_calm rfl ?_ (fun K hK => ?_); (first | exact Go.Mix.wanted_none rfl | exact Go.Mix.wanted_tt rfl rfl rfl | exact Go.Mix.wanted_ff rfl rfl rfl); go_big_quiet_op; refine hK _ ?_; clear hK K) | (refine Go.Flo.fw_skip ?_ (fun K hK => ?_); (first | exact Go.Mix.wanted_tf rfl rfl rfl | exact Go.Mix.wanted_ft rfl rfl rfl); go_simp; refine hK _ ?_; clear hK K) | (refine Go.Flo.fw_any rfl ?_ (fun K hK => ?_); (first | exact Go.Mix.wanted_none rfl | exact Go.Mix.wanted_tt rfl rfl rfl | exact Go.Mix.wanted_ff rfl rfl rfl); go_simp; (try (go_ints; try go_simp)); refine hK _ ?_; clear hK K)))
      refine Go.Flo.fw_loud rfl ?_ rfl (by simp) (fun wv hwv hav K hK => ?_) (fun v hv K hK => ?_)
      · (first | exact Go.Mix.wanted_none rfl | exact Go.Mix.wanted_tt rfl rfl rfl | exact Go.Mix.wanted_ff rfl rfl rfl)
      · obtain ⟨iv, rfl⟩ := hwv
        have hbv := HW.out iv
        (first | go_big_op | go_simp)
        go_at_call 16
        refine (TAppend_any a m c _ l _ HLM.out (Nat.le_refl _) (rd_grow HR9.out hbv) hlb (by omega)).mono ?_
        rintro e w' ⟨v, rfl, hown, hbb⟩
        exact hK _ _ (owes_B HWL.out rfl hbb hown)
      obtain ⟨a5, c5, rfl⟩ := ex_B hv
      go_simp
      refine hK _ ?_
      clear hK K hv
      refine Go.Flo.fw_loud rfl ?_ rfl (by simp) (fun wv hwv hav K hK => ?_) (fun v hv K hK => ?_)
      · (first | exact Go.Mix.wanted_none rfl | exact Go.Mix.wanted_tt rfl rfl rfl | exact Go.Mix.wanted_ff rfl rfl rfl)
      · obtain ⟨iv, rfl⟩ := hwv
        have hbv := HW.out iv
        (first | go_big_op | go_simp)
        have hs := says_B ((hav 97 (by decide +kernel)).2 rfl).1
        go_at_call 19
        refine (Same_any _ _ _ _ _ _ _ _ lj (whole l) _ HLAL.out rfl (rd_grow HA9.out hbv) hs hlab hwb).mono ?_
        rintro e w' ⟨rfl, j, hj⟩
        rw [← HA.out]
        exact hK _ _ (Go.Flo.owes_is _ rfl (by rw [hj]; exact ⟨rfl, rfl, rfl, Nat.le_refl _, fun _ _ => rfl⟩))
      obtain rfl := hv.is
      go_simp
      refine hK _ ?_
      clear hK K hv
      have hAA : (A == A) = true := by cases A <;> rfl
      (repeat (first | (refine Go.Flo.fw_calm rfl ?_ (fun K hK => ?_); (first | exact Go.Mix.wanted_none rfl | exact Go.Mix.wanted_tt rfl rfl rfl | exact Go.Mix.wanted_ff rfl rfl rfl); go_big_quiet_op; refine hK _ ?_; clear hK K) | (refine Go.Flo.fw_skip ?_ (fun K hK => ?_); (first | exact Go.Mix.wanted_tf rfl rfl rfl | exact Go.Mix.wanted_ft rfl rfl rfl); go_simp; refine hK _ ?_; clear hK K) | (refine Go.Flo.fw_any rfl ?_ (fun K hK => ?_); (first | exact Go.Mix.wanted_none rfl | exact Go.Mix.wanted_tt rfl rfl rfl | exact Go.Mix.wanted_ff rfl rfl rfl); go_simp; (try (go_ints; try go_simp)); refine hK _ ?_; clear hK K)))
      (refine Go.Flo.fw_calm rfl ?_ (fun K hK => ?_); (first | exact Go.Mix.wanted_none rfl | exact Go.Mix.wanted_tt rfl rfl rfl | exact Go.Mix.wanted_ff rfl rfl rfl); refine Go.Flo.quiet_load_row 27 _ rfl gt rfl _ _ _ (by rintro _ ⟨i, rfl⟩; exact hT9.below (HW.out i) hg9) Try.underlying27 rfl size_tab' ?_; go_simp; refine hK _ ?_; clear hK K)
      (repeat (first | (refine Go.Flo.fw_calm rfl ?_ (fun K hK => ?_); (first | exact Go.Mix.wanted_none rfl | exact Go.Mix.wanted_tt rfl rfl rfl | exact Go.Mix.wanted_ff rfl rfl rfl); go_big_quiet_op; refine hK _ ?_; clear hK K) | (refine Go.Flo.fw_skip ?_ (fun K hK => ?_); (first | exact Go.Mix.wanted_tf rfl rfl rfl | exact Go.Mix.wanted_ft rfl rfl rfl); go_simp; refine hK _ ?_; clear hK K) | (refine Go.Flo.fw_any rfl ?_ (fun K hK => ?_); (first | exact Go.Mix.wanted_none rfl | exact Go.Mix.wanted_tt rfl rfl rfl | exact Go.Mix.wanted_ff rfl rfl rfl); go_simp; (try (go_ints; try go_simp)); refine hK _ ?_; clear hK K)))
      refine Go.Flo.fw_loud rfl ?_ rfl (by simp) (fun wv hwv hav K hK => ?_) (fun v hv K hK => ?_)
      · (first | exact Go.Mix.wanted_none rfl | exact Go.Mix.wanted_tt rfl rfl rfl | exact Go.Mix.wanted_ff rfl rfl rfl)
      · obtain ⟨iv, rfl⟩ := hwv
        have hbv := HW.out iv
        (first | go_big_op | go_simp)
        go_at_call 21
        refine (TRight_any _ _ _ _ (Cr.flip (Cr.flip (whole l) X) Y) _ HFL2.out (Nat.le_refl _) (rd_grow HB9.out hbv) hfb2).mono ?_
        rintro e w' ⟨rfl, hbb⟩
        rw [HRB.out]
        exact hK _ _ (Go.Flo.owes_is _ rfl hbb)
      obtain rfl := hv.is
      go_simp
      refine hK _ ?_
      clear hK K hv
      (repeat (first | (refine Go.Flo.fw_calm rfl ?_ (fun K hK => ?_); (first | exact Go.Mix.wanted_none rfl | exact Go.Mix.wanted_tt rfl rfl rfl | exact Go.Mix.wanted_ff rfl rfl rfl); go_big_quiet_op; refine hK _ ?_; clear hK K) | (refine Go.Flo.fw_skip ?_ (fun K hK => ?_); (first | exact Go.Mix.wanted_tf rfl rfl rfl | exact Go.Mix.wanted_ft rfl rfl rfl); go_simp; refine hK _ ?_; clear hK K) | (refine Go.Flo.fw_any rfl ?_ (fun K hK => ?_); (first | exact Go.Mix.wanted_none rfl | exact Go.Mix.wanted_tt rfl rfl rfl | exact Go.Mix.wanted_ff rfl rfl rfl); go_simp; (try (go_ints; try go_simp)); refine hK _ ?_; clear hK K)))
      refine Go.Flo.fw_nil ?_
      intro w10 hww10 hfw10 huw10
      refine Go.Flo.tw_nil ?_
      obtain ⟨iend, hiend⟩ := hww10
      have hbw10 := HW.out iend
      rw [← hiend] at hbw10
      clear hiend iend huw10
      clear hfw10
      go_wp2
      go_ret
      refine ⟨?_, hB9.trans (hbw10.mono hB9.size)⟩
      refine ret_true05w ?_
      by_cases hxy : X = Y
      · have e1 : decide (X = Y) = true := by simp [hxy]
        have e2 : ((X : Int) == (Y : Int)) = true := by simp [hxy]
        show (decide (X = Y) == ((X : Int) == (Y : Int))) = true
        rw [e1, e2]; rfl
      · have e1 : decide (X = Y) = false := by simp [hxy]
        have e2 : ((X : Int) == (Y : Int)) = false := by rw [beq_eq_false_iff_ne]; omega
        show (decide (X = Y) == ((X : Int) == (Y : Int))) = true
        rw [e1, e2]; rfl
end Go.Proofs.Ytikhlhdjaladgaa
