/- FdirPicks. -/
import Derived.Test.YtinaimacocgemaaLaw22n
namespace Go.Proofs.Ytinaimacocgemaa
open Go.RowKit Go.Own Go.Proofs Bs
set_option linter.unusedVariables false
set_option linter.unusedSimpArgs false
set_option maxRecDepth 100000 in
set_option maxHeartbeats 8000000 in
theorem walk_FdirPicks (a0 : Option Addr) (len0 cap0 : Nat) (a1 a2 : Int) (w : World) (w0 : IsFlat [.int .u8, .int .i64, .int .u8] w a0 len0 cap0) (w1 : (Lit.int .u8 a1).wf = true) (w2 : (Lit.int .u8 a2).wf = true) :
    Calls Try.prog 6 #[.slice a0 len0 cap0, .int .u8 a1, .int .u8 a2] w fun e w' => e = .returned (.bool true) ∧ Below w.heap.size w w' := by
  obtain ⟨i0, i1⟩ := bounds_u8 w1
  obtain ⟨v0, v1⟩ := bounds_u8 w2
  obtain ⟨inh, rfl⟩ := Int.eq_ofNat_of_zero_le i0
  obtain ⟨lv, rfl⟩ := Int.eq_ofNat_of_zero_le v0
  have hinh : inh < 256 := by omega
  have hlv : lv < 256 := by omega
  obtain ⟨m, hm⟩ : ∃ m, m = min len0 20 := ⟨_, rfl⟩
  obtain ⟨L, hL, hok, hr⟩ := als_flat w0 (m := m) (by omega)
  have hm20 : m ≤ 20 := by omega
  have hlc := w0.1
  have hn0 := w0.2.2.1
  have HF := Lib.hid (show ∀ w1, Below w.heap.size w w1 → Calls Try.prog 43 #[.slice a0 len0 cap0] w1 fun e w' => ∃ (x : Option Addr) (c : Nat) (y : Option Addr) (d : Nat), e = .returned (.tuple #[.slice x m c, .slice y m d]) ∧ AlS w1.heap.size w'.heap.size w' x c L ∧ AlS w1.heap.size w'.heap.size w' y d L ∧ Below w1.heap.size w1 w' from fun w1 hb => few_any a0 len0 cap0 m L w1 hm hlc hn0 hL (hr.up hb (Nat.le_refl _) hb.size))
  have HP := Lib.hid (fun a c w h => Pick_any inh a c m L w hinh hL hm20 hok h)
  have HRP := Lib.hid (fun a c w h => rPick_any inh a c m L w hinh hL hm20 hok h)
  have HO := Lib.hid (fun a c w h => Order_any a c m L w hL hm20 hok h)
  have HRO := Lib.hid (fun a c w h => rOrder_any a c m L w hL hm20 hok h)
  obtain ⟨q, hq⟩ : ∃ q, q = (fnd inh (ordA (rl L))).getD al0 := ⟨_, rfl⟩
  obtain ⟨s, hs⟩ : ∃ s, s = (fnd inh (ordA (rl L))).isSome := ⟨_, rfl⟩
  obtain ⟨q1, q2, q3⟩ := fnd_ok hok inh
  rw [← hq] at q1 q2 q3
  simp only [pk_form] at HP HRP
  rw [← hq, ← hs] at HP HRP
  obtain ⟨O, hO⟩ : ∃ O, O = ordA (rl L) := ⟨_, rfl⟩
  have hoo := ok_ord hok
  rw [← hO] at HO HRO hoo
  have HOO := Lib.hid hoo
  have HOK := Lib.hid hok
  have HL := Lib.hid hL
  clear w0 w1 w2 i0 i1 v0 v1 hr hlc hn0 hm hq hs hoo hok hL
  have hz := zero_al
  have hz2 := zero_alr
  go_enter Try.func6, Try.ntmps6
  go_wp2_with fail
  go_at_call 42
  refine (awake22 _).mono ?_
  rintro e w2 ⟨rfl, hb⟩
  have HF2 := Lib.hid (HF.out w2 hb)
  have HB2 := Lib.hid hb
  clear hb HF
  go_wp2_with fail
  go_at_call 43
  refine HF2.out.mono ?_
  rintro e w3 ⟨x, c, y, d, rfl, hx, hy, hb⟩
  have HX := Lib.hid hx
  have HY := Lib.hid hy
  have HB3 := Lib.hid (HB2.out.trans (hb.mono HB2.out.size))
  clear hx hy hb HF2
  have hp := HP.out x c w3 (HX.out.up (Below.refl w3.heap.size w3) (Nat.le_refl _) (Nat.le_refl _))
  have HPP := Lib.hid hp
  clear hp HP
  go_wp2_with fail
  go_at_call 44
  refine HPP.out.mono ?_
  rintro e w4 ⟨rfl, hb4⟩
  have HB4 := Lib.hid hb4
  have HQ := Lib.hid (((Bq.nil w).step (HB3.out.trans (hb4.mono HB3.out.size))).new #[.int .u8 (q.l : Nat), .int .i64 q.u, .int .u8 (q.e : Nat)] 84)
  clear hb4 HPP
  go_upto_region 5 with ((with_reducible show wpList _ _ _ (_ :: _) _ _); refine wpList_store_row rfl 84 _ _ rfl _ _ rfl rfl _ _ (heap_alloc_new _ _) (by exact size_al) (by rfl) (by simp [Value.oneCell']) ?_; rw [World.setRow_alloc_new])
  obtain ⟨w5, hw5⟩ : ∃ w1, w1 = w4.alloc (.cells #[.int .u8 (q.l : Nat), .int .i64 q.u, .int .u8 (q.e : Nat)] 84) := ⟨_, rfl⟩
  have hb5 : Below w3.heap.size w3 w5 := by rw [hw5]; exact HB4.out.alloc HB4.out.size _
  obtain ⟨g8, hg8⟩ : ∃ g, g = w4.heap.size := ⟨_, rfl⟩
  have hq := HQ.out
  rw [← hw5, ← hg8] at hq
  rw [← hw5, ← hg8]
  have HQ5 := Lib.hid (show Bq w w5 [(g8, #[.int .u8 (q.l : Nat), .int .i64 q.u, .int .u8 (q.e : Nat)], 84)] from hq)
  have HB5 := Lib.hid hb5
  have HPP := Lib.hid (HRP.out y d w5 (HY.out.up hb5 (Nat.le_refl _) hb5.size))
  clear hw5 hg8 hq hb5 HQ HB4 HRP
  go_wp2_with fail
  go_at_call 45
  refine HPP.out.mono ?_
  rintro e w6 ⟨rfl, hb6⟩
  have hb6' := HB5.out.trans (hb6.mono HB5.out.size)
  have HB6 := Lib.hid hb6'
  have HQ := Lib.hid ((HQ5.out.step hb6).new #[.int .u8 (q.l : Nat), .int .i64 q.u, .int .u8 (q.e : Nat)] 87)
  clear hb6 hb6' HPP HB5 HQ5
  go_upto_region 6 with ((with_reducible show wpList _ _ _ (_ :: _) _ _); refine wpList_store_row rfl 87 _ _ rfl _ _ rfl rfl _ _ (heap_alloc_new _ _) (by exact size_alr) (by rfl) (by simp [Value.oneCell']) ?_; rw [World.setRow_alloc_new])
  obtain ⟨w7, hw7⟩ : ∃ w1, w1 = w6.alloc (.cells #[.int .u8 (q.l : Nat), .int .i64 q.u, .int .u8 (q.e : Nat)] 87) := ⟨_, rfl⟩
  have hb7 : Below w3.heap.size w3 w7 := by rw [hw7]; exact HB6.out.alloc HB6.out.size _
  obtain ⟨g10, hg10⟩ : ∃ g, g = w6.heap.size := ⟨_, rfl⟩
  have hq := HQ.out
  rw [← hw7, ← hg10] at hq
  rw [← hw7, ← hg10]
  have HQ7 := Lib.hid (show Bq w w7 [(g8, #[.int .u8 (q.l : Nat), .int .i64 q.u, .int .u8 (q.e : Nat)], 84), (g10, #[.int .u8 (q.l : Nat), .int .i64 q.u, .int .u8 (q.e : Nat)], 87)] from hq)
  have HB7 := Lib.hid hb7
  have HOO1 := Lib.hid (HO.out x c w7 (HX.out.up hb7 (Nat.le_refl _) hb7.size))
  clear hw7 hg10 hq hb7 HQ HB6 HO
  go_wp2_with fail
  go_at_call 46
  refine HOO1.out.mono ?_
  rintro e w8 ⟨x2, n2, c2, rfl, hn2, hx2, hb8⟩
  have hb8' := HB7.out.trans (hb8.mono HB7.out.size)
  have HB8 := Lib.hid hb8'
  have HQ8 := Lib.hid (HQ7.out.step hb8)
  have HX2 := Lib.hid hx2
  have HOO2 := Lib.hid (HRO.out y d w8 (HY.out.up hb8' (Nat.le_refl _) hb8'.size))
  have HN := Lib.hid hn2
  clear hb8 hb8' HOO1 HB7 HQ7 HRO hx2 hn2
  go_wp2_with fail
  go_at_call 47
  refine HOO2.out.mono ?_
  rintro e w9 ⟨y2, n3, d2, rfl, hn3, hy2, hb9⟩
  obtain rfl : n3 = n2 := hn3.trans HN.out.symm
  have HB9 := Lib.hid (HB8.out.trans (hb9.mono HB8.out.size))
  have hq9 := HQ8.out.step hb9
  have HX9 := Lib.hid (HX2.out.below hb9 (Nat.le_refl _))
  have HS9 := Lib.hid hb9.size
  have HY9 := Lib.hid hy2
  have hxt := hy2.top
  have hxl := hy2.le
  unfold maxLen at hxt
  rw [← HN.out] at hxl
  have hx2t := HX2.out.top
  have hx2l := HX2.out.le
  unfold maxLen at hx2t
  rw [← HN.out] at hx2l
  have b8 := hq9.of 0 rfl
  have b10 := hq9.of 1 rfl
  have k0 := cell_of_row _ _ 0 _ _ _ b8
  have k1 := cell_of_row _ _ 1 _ _ _ b8
  have k2 := cell_of_row _ _ 2 _ _ _ b8
  have j0 := cell_of_row _ _ 0 _ _ _ b10
  have j1 := cell_of_row _ _ 1 _ _ _ b10
  have j2 := cell_of_row _ _ 2 _ _ _ b10
  have HQ9 := Lib.hid hq9
  have hin := inAr q1 q2 q3
  clear hb9 hq9 b8 b10 hy2 hn3 HB8 HQ8 HX2 HOO2
  go_upto_region 9 with fail
  clear k0 k1 k2 j0 j1 j2 hin
  go_wp2_with fail
  go_loopw [58] (fun v wr => ∃ k : Nat, k ≤ n3 ∧ v = .int .i64 (k : Nat) ∧ Below w9.heap.size w9 wr) (fun v _ => n3 - (intOf v).toNat)
  case atStart => exact ⟨0, Nat.zero_le _, rfl, Below.refl _ _⟩
  case round =>
    obtain ⟨k, hk, rfl, hB⟩ := hrel
    have HB := Lib.hid hB
    clear hB
    by_cases hlt : k < n3
    · have hkl : k < O.length := by have := HN.out; omega
      obtain ⟨bx, ox, rfl, _, hbx, hcx⟩ := HX9.out.at_ (by omega)
      obtain ⟨byy, oy, rfl, _, hby, hcy⟩ := HY9.out.at_ (by omega)
      obtain ⟨r1, r2, r3⟩ := HOO.out.at hkl
      have gx := fun j v hv => (HB.out.cell (p := ⟨bx, ox + k * 3 + j, none⟩) (Nat.lt_of_lt_of_le hbx HS9.out)).trans (hcx k hkl j v hv)
      have gy := fun j v hv => (HB.out.cell (p := ⟨byy, oy + k * 3 + j, none⟩) hby).trans (hcy k hkl j v hv)
      obtain ⟨r, hr⟩ : ∃ r, r = O.getD k al0 := ⟨_, rfl⟩
      rw [← hr] at r1 r2 r3 gx gy
      have x0 : wr.cell? ⟨bx, ox + k * 3, none⟩ = some (.int .u8 (r.l : Nat)) := gx 0 _ rfl
      have x1 : wr.cell? ⟨bx, ox + k * 3 + 1, none⟩ = some (.int .i64 r.u) := gx 1 _ rfl
      have x2 : wr.cell? ⟨bx, ox + k * 3 + 2, none⟩ = some (.int .u8 (r.e : Nat)) := gx 2 _ rfl
      have y0 : wr.cell? ⟨byy, oy + k * 3, none⟩ = some (.int .u8 (r.l : Nat)) := gy 0 _ rfl
      have y1 : wr.cell? ⟨byy, oy + k * 3 + 1, none⟩ = some (.int .i64 r.u) := gy 1 _ rfl
      have y2 : wr.cell? ⟨byy, oy + k * 3 + 2, none⟩ = some (.int .u8 (r.e : Nat)) := gy 2 _ rfl
      have hin := inAr r1 r2 r3
      clear gx gy hcx hcy hr hbx hby
      go_upto_region 12 with fail
      go_quiet (fail)
      have HB2 := Lib.hid (HB.out.trans ((bel_drewV wr nq).mono HB.out.size))
      clear HB x0 x1 x2 y0 y1 y2 hin
      go_wp2
      go_roundw
      case rel => exact ⟨k + 1, by omega, by go_num, HB2.out⟩
      case measure => simp [intOf]; omega
    · obtain rfl : k = n3 := by omega
      have HBW := Lib.hid (HB9.out.trans (HB.out.mono HB9.out.size))
      have hxt1 := HX.out.top
      have hxl1 := HX.out.le
      have hyt1 := HY.out.top
      have hyl1 := HY.out.le
      unfold maxLen at hxt1 hyt1
      rw [HL.out] at hxl1 hyl1
      clear HX9 HS9 HY9 HN HB hk hlt hxt hxl hx2t hx2l HQ9 HB9
      go_wp2_with fail
      go_loopw [73] (fun v wr => ∃ k : Nat, k ≤ m ∧ v = .int .i64 (k : Nat) ∧ Below w3.heap.size w3 wr) (fun v _ => m - (intOf v).toNat)
      case atStart => exact ⟨0, Nat.zero_le _, rfl, HBW.out⟩
      case round =>
        clear HBW
        obtain ⟨k, hk, rfl, hB⟩ := hrel
        have HB := Lib.hid hB
        clear hB
        by_cases hlt : k < m
        · have hkl : k < L.length := by have := HL.out; omega
          obtain ⟨bx, ox, rfl, _, hbx, hcx⟩ := HX.out.at_ (by omega)
          obtain ⟨bb, off, rfl, _, hbn, hcy⟩ := HY.out.at_ (by omega)
          obtain ⟨r1, r2, r3⟩ := HOK.out.at hkl
          have gx := fun j v hv => (HB.out.cell (p := ⟨bx, ox + k * 3 + j, none⟩) hbx).trans (hcx k hkl j v hv)
          have hrg : wr.rangeAt bb (off + k * 3) (Al.cs (L.getD k al0)) := fun j v hv => (HB.out.cell (p := ⟨bb, off + k * 3 + j, none⟩) hbn).trans (hcy k hkl j v hv)
          obtain ⟨r, hr⟩ : ∃ r, r = L.getD k al0 := ⟨_, rfl⟩
          rw [← hr] at r1 r2 r3 gx hrg
          have x0 : wr.cell? ⟨bx, ox + k * 3, none⟩ = some (.int .u8 (r.l : Nat)) := gx 0 _ rfl
          have x1 : wr.cell? ⟨bx, ox + k * 3 + 1, none⟩ = some (.int .i64 r.u) := gx 1 _ rfl
          have x2 : wr.cell? ⟨bx, ox + k * 3 + 2, none⟩ = some (.int .u8 (r.e : Nat)) := gx 2 _ rfl
          have hbw : bx < wr.heap.size := Nat.lt_of_lt_of_le hbx HB.out.size
          have hal := (Below.refl wr.heap.size wr).alloc (Nat.le_refl _) (.cells #[.int .u8 (r.l : Nat), .int .i64 r.u, .int .u8 (r.e : Nat)] 87)
          have h6 := heap_alloc_new wr (.cells #[.int .u8 (r.l : Nat), .int .i64 r.u, .int .u8 (r.e : Nat)] 87)
          obtain ⟨we, hwe⟩ : ∃ we, wr.alloc (.cells #[.int .u8 (r.l : Nat), .int .i64 r.u, .int .u8 (r.e : Nat)] 87) = we := ⟨_, rfl⟩
          rw [hwe] at hal h6
          have x0 := (hal.cell (p := ⟨bx, ox + k * 3, none⟩) hbw).trans x0
          have x1 := (hal.cell (p := ⟨bx, ox + k * 3 + 1, none⟩) hbw).trans x1
          have x2 := (hal.cell (p := ⟨bx, ox + k * 3 + 2, none⟩) hbw).trans x2
          have hbe : bx < we.heap.size := Nat.lt_of_lt_of_le hbw hal.size
          have HB2 := Lib.hid (HB.out.trans (hal.mono HB.out.size))
          have HRG := Lib.hid hrg
          clear gx hcx hcy hrg hal HB hbx hbn hr hbw
          have hrl := HRG.out
          go_upto_region 18 with (first | ((with_reducible show wpList _ _ _ (_ :: _) _ _); refine wpList_load_mid rfl 87 _ rfl _ (off + k * 3) rfl (Al.cs r) _ hrl Try.underlying87 rfl size_alr ?_; rw [show (Al.cs r).toArray = #[.int .u8 (r.l : Nat), .int .i64 r.u, .int .u8 (r.e : Nat)] from rfl]; (try go_simp)) | (((with_reducible show wpList _ _ _ (_ :: _) _ _); refine wpList_store_row rfl 87 _ _ rfl _ _ rfl rfl _ _ (heap_alloc_new _ _) (by exact size_alr) (by rfl) (by simp [Value.oneCell']) ?_; rw [World.setRow_alloc_new]); rw [hwe]))
          clear hrl hwe HRG
          obtain ⟨g6, hg6⟩ : ∃ g, g = wr.heap.size := ⟨_, rfl⟩
          rw [← hg6] at h6 ⊢
          clear hg6
          have l6 := box_lt h6
          obtain ⟨t, ht⟩ : ∃ t, t = rgt r.l r.u := ⟨_, rfl⟩
          have HR1 := Lib.hid (fun w => Right_any r.l r.u r.e w r1)
          have HR2 := Lib.hid (fun w => rRight_any r.l r.u r.e w r1)
          rw [← ht] at HR1 HR2
          clear ht r1 r2 r3
          simp only [Act.put]
          obtain ⟨I, W, hne, hWI, hIW⟩ := Go.Mix.family (fun v => Below we.heap.size we v) (Below.refl _ _)
          have HJ := Lib.hid hIW
          have HW := Lib.hid hWI
          clear hWI hIW
          refine Go.Flo.wp_region (fun w' => ∃ i, w' = W i) 8 [Go.Flo.Spec.is (.bool t), Go.Flo.Spec.is (.bool t)] (by kernel_rfl) (by kernel_rfl) (by decide) (by rintro _ w' ⟨i, rfl⟩ hb; exact HJ.out _ ((HW.out i).trans (hb.mono (HW.out i).size))) (HJ.out _ (Below.refl _ _).drew) ?_
          simp only [Go.Flo.pair, Go.Mix.calm, List.take, List.drop, if_true, Bool.false_eq_true, if_false, Nat.reduceAdd, Nat.reduceSub]
          have y0 := fun i => ((HW.out i).cell (p := ⟨bx, ox + k * 3, none⟩) hbe).trans x0
          have y1 := fun i => ((HW.out i).cell (p := ⟨bx, ox + k * 3 + 1, none⟩) hbe).trans x1
          have y2 := fun i => ((HW.out i).cell (p := ⟨bx, ox + k * 3 + 2, none⟩) hbe).trans x2
          (first | (refine Go.Flo.fw_calm rfl ?_ (fun K hK => ?_); (first | exact Go.Mix.wanted_none rfl | exact Go.Mix.wanted_tt rfl rfl rfl | exact Go.Mix.wanted_ff rfl rfl rfl); go_big_quiet_op; refine hK _ ?_; clear hK K) | (refine Go.Flo.fw_skip ?_ (fun K hK => ?_); (first | exact Go.Mix.wanted_tf rfl rfl rfl | exact Go.Mix.wanted_ft rfl rfl rfl); go_simp; refine hK _ ?_; clear hK K) | (refine Go.Flo.fw_any rfl ?_ (fun K hK => ?_); (first | exact Go.Mix.wanted_none rfl | exact Go.Mix.wanted_tt rfl rfl rfl | exact Go.Mix.wanted_ff rfl rfl rfl); go_simp; (try (go_ints; try go_simp)); refine hK _ ?_; clear hK K))
          (first | (refine Go.Flo.fw_calm rfl ?_ (fun K hK => ?_); (first | exact Go.Mix.wanted_none rfl | exact Go.Mix.wanted_tt rfl rfl rfl | exact Go.Mix.wanted_ff rfl rfl rfl); go_big_quiet_op; refine hK _ ?_; clear hK K) | (refine Go.Flo.fw_skip ?_ (fun K hK => ?_); (first | exact Go.Mix.wanted_tf rfl rfl rfl | exact Go.Mix.wanted_ft rfl rfl rfl); go_simp; refine hK _ ?_; clear hK K) | (refine Go.Flo.fw_any rfl ?_ (fun K hK => ?_); (first | exact Go.Mix.wanted_none rfl | exact Go.Mix.wanted_tt rfl rfl rfl | exact Go.Mix.wanted_ff rfl rfl rfl); go_simp; (try (go_ints; try go_simp)); refine hK _ ?_; clear hK K))
          (first | (refine Go.Flo.fw_calm rfl ?_ (fun K hK => ?_); (first | exact Go.Mix.wanted_none rfl | exact Go.Mix.wanted_tt rfl rfl rfl | exact Go.Mix.wanted_ff rfl rfl rfl); go_big_quiet_op; refine hK _ ?_; clear hK K) | (refine Go.Flo.fw_skip ?_ (fun K hK => ?_); (first | exact Go.Mix.wanted_tf rfl rfl rfl | exact Go.Mix.wanted_ft rfl rfl rfl); go_simp; refine hK _ ?_; clear hK K) | (refine Go.Flo.fw_any rfl ?_ (fun K hK => ?_); (first | exact Go.Mix.wanted_none rfl | exact Go.Mix.wanted_tt rfl rfl rfl | exact Go.Mix.wanted_ff rfl rfl rfl); go_simp; (try (go_ints; try go_simp)); refine hK _ ?_; clear hK K))
          (first | (refine Go.Flo.fw_calm rfl ?_ (fun K hK => ?_); (first | exact Go.Mix.wanted_none rfl | exact Go.Mix.wanted_tt rfl rfl rfl | exact Go.Mix.wanted_ff rfl rfl rfl); go_big_quiet_op; refine hK _ ?_; clear hK K) | (refine Go.Flo.fw_skip ?_ (fun K hK => ?_); (first | exact Go.Mix.wanted_tf rfl rfl rfl | exact Go.Mix.wanted_ft rfl rfl rfl); go_simp; refine hK _ ?_; clear hK K) | (refine Go.Flo.fw_any rfl ?_ (fun K hK => ?_); (first | exact Go.Mix.wanted_none rfl | exact Go.Mix.wanted_tt rfl rfl rfl | exact Go.Mix.wanted_ff rfl rfl rfl); go_simp; (try (go_ints; try go_simp)); refine hK _ ?_; clear hK K))
          refine Go.Flo.fw_loud rfl ?_ rfl (by simp) (fun wv hwv hav K hK => ?_) (fun v hv K hK => ?_)
          · (first | exact Go.Mix.wanted_none rfl | exact Go.Mix.wanted_tt rfl rfl rfl | exact Go.Mix.wanted_ff rfl rfl rfl)
          · obtain ⟨iv, rfl⟩ := hwv
            have hbv := HW.out iv
            (first | go_big_op | go_simp)
            go_at_call 48
            refine (HR1.out _).mono ?_
            rintro e w' ⟨rfl, hb⟩
            exact hK _ _ (Go.Flo.owes_is _ rfl hb)
          obtain rfl := hv.is
          go_simp
          refine hK _ ?_
          clear hK K hv
          (refine Go.Flo.fw_calm rfl ?_ (fun K hK => ?_); (first | exact Go.Mix.wanted_none rfl | exact Go.Mix.wanted_tt rfl rfl rfl | exact Go.Mix.wanted_ff rfl rfl rfl); refine Go.Flo.quiet_load_row 87 _ rfl _ rfl _ #[.int .u8 (r.l : Nat), .int .i64 r.u, .int .u8 (r.e : Nat)] _ (by rintro _ ⟨i, rfl⟩; exact ((HW.out i).block _ l6).trans h6) Try.underlying87 rfl size_alr ?_; go_simp; refine hK _ ?_; clear hK K)
          refine Go.Flo.fw_loud rfl ?_ rfl (by simp) (fun wv hwv hav K hK => ?_) (fun v hv K hK => ?_)
          · (first | exact Go.Mix.wanted_none rfl | exact Go.Mix.wanted_tt rfl rfl rfl | exact Go.Mix.wanted_ff rfl rfl rfl)
          · obtain ⟨iv, rfl⟩ := hwv
            have hbv := HW.out iv
            (first | go_big_op | go_simp)
            go_at_call 49
            refine (HR2.out _).mono ?_
            rintro e w' ⟨rfl, hb⟩
            exact hK _ _ (Go.Flo.owes_is _ rfl hb)
          obtain rfl := hv.is
          go_simp
          refine hK _ ?_
          clear hK K hv
          (repeat (first | (refine Go.Flo.fw_calm rfl ?_ (fun K hK => ?_); (first | exact Go.Mix.wanted_none rfl | exact Go.Mix.wanted_tt rfl rfl rfl | exact Go.Mix.wanted_ff rfl rfl rfl); go_big_quiet_op; refine hK _ ?_; clear hK K) | (refine Go.Flo.fw_skip ?_ (fun K hK => ?_); (first | exact Go.Mix.wanted_tf rfl rfl rfl | exact Go.Mix.wanted_ft rfl rfl rfl); go_simp; refine hK _ ?_; clear hK K) | (refine Go.Flo.fw_any rfl ?_ (fun K hK => ?_); (first | exact Go.Mix.wanted_none rfl | exact Go.Mix.wanted_tt rfl rfl rfl | exact Go.Mix.wanted_ff rfl rfl rfl); go_simp; (try (go_ints; try go_simp)); refine hK _ ?_; clear hK K)))
          refine Go.Flo.fw_nil ?_
          intro we2 hwwe2 hfwe2 huwe2
          refine Go.Flo.tw_nil ?_
          obtain ⟨iend, hiend⟩ := hwwe2
          have hbwe2 := HW.out iend
          rw [← hiend] at hbwe2
          clear hiend iend huwe2
          have HB3' := Lib.hid (HB2.out.trans (hbwe2.mono HB2.out.size))
          clear hfwe2 HJ HW hne hbwe2 h6 l6 x0 x1 x2 y0 y1 y2 HB2 HR1 HR2
          clear W I
          go_wp2
          go_roundw
          case rel => exact ⟨k + 1, by omega, by go_num, HB3'.out⟩
          case measure => simp [intOf]; omega
        · obtain rfl : k = m := by omega
          have HWR := Lib.hid (HB3.out.trans (HB.out.mono HB3.out.size))
          have HAL := Lib.hid (fun w => Allowed_any inh lv w hinh hlv)
          have HRA := Lib.hid (fun w => rAllowed_all inh lv w hinh hlv)
          have HNM := Lib.hid (fun w => Name_any lv w hlv)
          obtain ⟨t, ht⟩ : ∃ t, t = al inh lv := ⟨_, rfl⟩
          rw [← ht] at HAL HRA
          clear ht hlt hk
          go_upto_region 22 with fail
          rcases (by omega : lv = 0 ∨ lv = 1 ∨ lv = 2 ∨ lv = 3 ∨ lv = 4 ∨ 5 ≤ lv) with rfl | rfl | rfl | rfl | rfl | h5
          · rw [show nmS 0 = ⟨#[117, 110, 105, 116]⟩ from rfl] at HNM
            go_wp2_with (first | (go_at_call 50; refine (HAL.out _).mono ?_; rintro e w9 ⟨rfl, rfl⟩) | (go_at_call 51; refine (HRA.out _).mono ?_; rintro e w9 ⟨rfl, rfl⟩) | (go_at_call 52; refine (HNM.out _).mono ?_; rintro e w9 ⟨rfl, rfl⟩))
            go_ret
            exact ⟨rfl, HWR.out.alloc HWR.out.size _⟩
          · rw [show nmS 1 = ⟨#[102, 117, 110, 99, 116, 105, 111, 110]⟩ from rfl] at HNM
            go_wp2_with (first | (go_at_call 50; refine (HAL.out _).mono ?_; rintro e w9 ⟨rfl, rfl⟩) | (go_at_call 51; refine (HRA.out _).mono ?_; rintro e w9 ⟨rfl, rfl⟩) | (go_at_call 52; refine (HNM.out _).mono ?_; rintro e w9 ⟨rfl, rfl⟩))
            go_ret
            exact ⟨rfl, HWR.out.alloc HWR.out.size _⟩
          · rw [show nmS 2 = ⟨#[115, 121, 115, 116, 101, 109]⟩ from rfl] at HNM
            go_wp2_with (first | (go_at_call 50; refine (HAL.out _).mono ?_; rintro e w9 ⟨rfl, rfl⟩) | (go_at_call 51; refine (HRA.out _).mono ?_; rintro e w9 ⟨rfl, rfl⟩) | (go_at_call 52; refine (HNM.out _).mono ?_; rintro e w9 ⟨rfl, rfl⟩))
            go_ret
            exact ⟨rfl, HWR.out.alloc HWR.out.size _⟩
          · rw [show nmS 3 = ⟨#[119, 97, 116, 99, 104, 100, 111, 103]⟩ from rfl] at HNM
            go_wp2_with (first | (go_at_call 50; refine (HAL.out _).mono ?_; rintro e w9 ⟨rfl, rfl⟩) | (go_at_call 51; refine (HRA.out _).mono ?_; rintro e w9 ⟨rfl, rfl⟩) | (go_at_call 52; refine (HNM.out _).mono ?_; rintro e w9 ⟨rfl, rfl⟩))
            go_ret
            exact ⟨rfl, HWR.out.alloc HWR.out.size _⟩
          · rw [show nmS 4 = ⟨#[97, 108, 97, 114, 109]⟩ from rfl] at HNM
            go_wp2_with (first | (go_at_call 50; refine (HAL.out _).mono ?_; rintro e w9 ⟨rfl, rfl⟩) | (go_at_call 51; refine (HRA.out _).mono ?_; rintro e w9 ⟨rfl, rfl⟩) | (go_at_call 52; refine (HNM.out _).mono ?_; rintro e w9 ⟨rfl, rfl⟩))
            go_ret
            exact ⟨rfl, HWR.out.alloc HWR.out.size _⟩
          · have hz5 : ¬ (lv : Int) < 5 := by omega
            have hnm : nmS lv = ⟨#[]⟩ := by obtain ⟨j, rfl⟩ : ∃ j, lv = j + 5 := ⟨lv - 5, by omega⟩; rfl
            rw [hnm] at HNM
            clear hnm
            go_wp2_with (first | (go_at_call 50; refine (HAL.out _).mono ?_; rintro e w9 ⟨rfl, rfl⟩) | (go_at_call 51; refine (HRA.out _).mono ?_; rintro e w9 ⟨rfl, rfl⟩) | (go_at_call 52; refine (HNM.out _).mono ?_; rintro e w9 ⟨rfl, rfl⟩))
            go_ret
            exact ⟨rfl, HWR.out⟩
end Go.Proofs.Ytinaimacocgemaa
