/- Contracts of layer 11 (the queue), on: put. -/
import Derived.Test.YtioclbkgfbjpdaaQu
namespace Go.Proofs.Ytioclbkgfbjpdaa
open Go.RowKit Go.Own
set_option linter.unusedVariables false
set_option linter.unusedSimpArgs false
theorem sl8_upto (a : Option Addr) (len cap k : Nat) (hk : k ≤ cap) (w : World) : (Instr.slice 43 (.slice a len cap) none (some (.int .i64 (k : Nat))) none).run Try.prog w = .ok (.slice a k cap) w := by
  rw [run_slice_h w 43 a len cap (by kernel_rfl) .i64 _ (by omega) (by omega)]
  have hz : (sizeOf (Try.prog.elem 43)).run Try.prog w = .ok 1 w := by kernel_rfl
  rw [hz]
  simp [sliced, Result.andThen]
  cases a <;> simp [Addr.add]
/-- What is put: its parts. -/
structure PutIs (s u t cnt : Nat) (l : List Nat) (r : Rq) : Prop where
  s : r.s = s
  u : r.u = u
  c : r.c = cnt
  t : r.t = t
  d : r.d = l.take 189
theorem own_not_rq {w : World} {base m c x1 : Nat} {a : Option Addr} {xs : List Value} {cs : Array Value} {fr : Nat × Nat} {x : Addr} (h : w.ownsRow base 5 1 (.slice a m c) m xs) (hc : w.heap[x1]? = some (.cells cs 123 fr)) (hx : a = some x) (e : x.block = x1) : False := by
  subst hx
  rcases h.2 with ⟨h1, _⟩ | ⟨g, cap, cur, hv, _, hg, _⟩
  · simp at h1
  · simp only [Value.slice.injEq, Option.some.injEq] at hv
    obtain ⟨rfl, _, _⟩ := hv
    rw [← e] at hc
    rw [hg] at hc
    injection hc with hc
    injection hc with _ hc
    exact absurd hc (by decide)
set_option maxRecDepth 100000 in
set_option maxHeartbeats 2000000 in
theorem qPut_room {w : World} {B gq g b n cnt d : Nat} {L : List Rq} (h : QuS w B gq g b n cnt d L) (hB : B ≤ w.heap.size) (hL : L.length < n) (s u t : Nat) (hs : s < 256) (hu : u < 256) (ht : t < 4294967296) (a : Option Addr) (len cap : Nat) (l : List Nat)
    (hl : l.length = len) (hby : bytes l) (hr : Rd w.heap.size w a len cap (bv l)) (hlen : len ≤ 100000) :
    Calls Try.prog 23 #[.pointer (some ⟨gq, 0, none⟩), .int .u8 (s : Nat), .int .u8 (u : Nat), .int .u32 (t : Nat), .slice a len cap] w fun e w' => e = .returned (.bool true) ∧ ∃ r, PutIs s u t cnt l r ∧ QuS w' B gq g b n ((cnt + 1) % 65536) d (L ++ [r]) ∧ Kep3 gq g b w w' := by
  have p0 := h.p0
  have p1 := h.p1
  have hqw := box_lt h.box
  have hrc := h.hcnt
  have hle := h.ring.le
  obtain ⟨m, hm⟩ : ∃ m, m = min len 189 := ⟨_, rfl⟩
  have hmn := fun (w : World) => run_minI (P := Try.prog) #[3, 3] 3 .i64 (len : Int) 189 w
  rw [show min (len : Int) 189 = ((m : Nat) : Int) by omega] at hmn
  have hml : m ≤ len := by omega
  have hm189 : m ≤ 189 := by omega
  have hmc : m ≤ cap := by have := hr.le; omega
  have hup := fun w => sl8_upto a len cap m hmc w
  have hlm : (l.take m).length = m := by rw [List.length_take, hl]; omega
  have hrm : Rd w.heap.size w a m cap (bv (l.take m)) := (hr.first hml).same (fun i hi => by unfold bv; simp [List.getD, List.getElem?_take, hi])
  have htk : l.take m = l.take 189 := by
    rw [hm]
    by_cases hc : len ≤ 189
    · rw [Nat.min_eq_left hc, List.take_of_length_le (by omega), List.take_of_length_le (by omega)]
    · rw [Nat.min_eq_right (by omega)]
  have hbm : bytes (l.take m) := fun x hx => hby x (List.mem_of_mem_take hx)
  obtain ⟨lm, hlmm⟩ : ∃ lm, lm = l.take m := ⟨_, rfl⟩
  rw [← hlmm] at hlm hrm htk hbm
  have H := Lib.hid h
  have HRM := Lib.hid hrm
  have HLM := Lib.hid hlm
  have HTK := Lib.hid htk
  have HBM := Lib.hid hbm
  clear h hr hl hm hrm hlm htk hby hbm hlmm
  go_enter Try.func23, Try.ntmps23
  go_wp2_with fail
  obtain ⟨I, W, hne, hWI, hIW⟩ := Go.Mix.family (fun v => Below w.heap.size w v) (Below.refl _ _)
  have HJ := Lib.hid hIW
  have HW := Lib.hid hWI
  clear hWI hIW
  refine Go.Flo.wp_region (fun w' => ∃ i, w' = W i) 15 [SpO w.heap.size lm, Go.Flo.Spec.ptr w.heap.size #[.int .u8 (rq0.s : Nat), .int .u8 (rq0.u : Nat), .int .u16 (rq0.c : Nat), .int .u32 (rq0.t : Nat), .slice rq0.a rq0.n rq0.cp] 123] (by kernel_rfl) (by kernel_rfl) (by decide) (by rintro _ w' ⟨i, rfl⟩ hb; exact HJ.out _ ((HW.out i).trans (hb.mono (HW.out i).size))) (HJ.out _ (Below.refl _ _).drew) ?_
  simp only [Go.Flo.pair, Go.Mix.calm, List.take, List.drop, if_true, Bool.false_eq_true, if_false, Nat.reduceAdd, Nat.reduceSub]
  have e1 : ∀ i, (W i).cell? ⟨gq, 1, none⟩ = some (.int .u16 (cnt : Nat)) := fun i => ((HW.out i).cell (p := ⟨gq, 1, none⟩) hqw).trans p1
  (repeat (first | (refine Go.Flo.fw_calm rfl ?_ (fun K hK => ?_); (first | exact Go.Mix.wanted_none rfl | exact Go.Mix.wanted_tt rfl rfl rfl | exact Go.Mix.wanted_ff rfl rfl rfl); go_big_quiet_op; refine hK _ ?_; clear hK K) | (refine Go.Flo.fw_skip ?_ (fun K hK => ?_); (first | exact Go.Mix.wanted_tf rfl rfl rfl | exact Go.Mix.wanted_ft rfl rfl rfl); go_simp; refine hK _ ?_; clear hK K) | (refine Go.Flo.fw_any rfl ?_ (fun K hK => ?_); (first | exact Go.Mix.wanted_none rfl | exact Go.Mix.wanted_tt rfl rfl rfl | exact Go.Mix.wanted_ff rfl rfl rfl); go_simp; (try (go_ints; try go_simp)); refine hK _ ?_; clear hK K)))
  refine Go.Flo.fw_loud rfl ?_ rfl (by simp) (fun wv hwv hav K hK => ?_) (fun v hv K hK => ?_)
  · (first | exact Go.Mix.wanted_none rfl | exact Go.Mix.wanted_tt rfl rfl rfl | exact Go.Mix.wanted_ff rfl rfl rfl)
  · obtain ⟨iv, rfl⟩ := hwv
    have hbv := HW.out iv
    (first | go_big_op | go_simp)
    go_at_call 68
    refine (Clone_any a m cap w.heap.size lm _ hbv.size HLM.out (HRM.out.below hbv) (by omega)).mono ?_
    rintro e w' ⟨x, rfl, hown, hbb⟩
    exact hK _ _ (owes_O HLM.out rfl hbb hown hbv.size)
  obtain ⟨a9, c9, rfl⟩ := ex_O hv
  go_simp
  refine hK _ ?_
  clear hK K hv
  (repeat (first | (refine Go.Flo.fw_calm rfl ?_ (fun K hK => ?_); (first | exact Go.Mix.wanted_none rfl | exact Go.Mix.wanted_tt rfl rfl rfl | exact Go.Mix.wanted_ff rfl rfl rfl); go_big_quiet_op; refine hK _ ?_; clear hK K) | (refine Go.Flo.fw_skip ?_ (fun K hK => ?_); (first | exact Go.Mix.wanted_tf rfl rfl rfl | exact Go.Mix.wanted_ft rfl rfl rfl); go_simp; refine hK _ ?_; clear hK K) | (refine Go.Flo.fw_any rfl ?_ (fun K hK => ?_); (first | exact Go.Mix.wanted_none rfl | exact Go.Mix.wanted_tt rfl rfl rfl | exact Go.Mix.wanted_ff rfl rfl rfl); go_simp; (try (go_ints; try go_simp)); refine hK _ ?_; clear hK K)))
  refine Go.Flo.fw_loud rfl ?_ rfl (by simp) (fun wv hwv hav K hK => ?_) (fun v hv K hK => ?_)
  · (first | exact Go.Mix.wanted_none rfl | exact Go.Mix.wanted_tt rfl rfl rfl | exact Go.Mix.wanted_ff rfl rfl rfl)
  · obtain ⟨iv, rfl⟩ := hwv
    (first | go_big_op | go_simp)
    refine hK _ _ (Go.Flo.owes_ptr (HW.out iv).size)
  obtain ⟨x1, hx1, rfl, hnx1⟩ := hv.ptr rfl
  go_simp
  refine hK _ ?_
  clear hK K hv
  (repeat (first | (refine Go.Flo.fw_calm rfl ?_ (fun K hK => ?_); (first | exact Go.Mix.wanted_none rfl | exact Go.Mix.wanted_tt rfl rfl rfl | exact Go.Mix.wanted_ff rfl rfl rfl); go_big_quiet_op; refine hK _ ?_; clear hK K) | (refine Go.Flo.fw_skip ?_ (fun K hK => ?_); (first | exact Go.Mix.wanted_tf rfl rfl rfl | exact Go.Mix.wanted_ft rfl rfl rfl); go_simp; refine hK _ ?_; clear hK K) | (refine Go.Flo.fw_any rfl ?_ (fun K hK => ?_); (first | exact Go.Mix.wanted_none rfl | exact Go.Mix.wanted_tt rfl rfl rfl | exact Go.Mix.wanted_ff rfl rfl rfl); go_simp; (try (go_ints; try go_simp)); refine hK _ ?_; clear hK K)))
  refine Go.Flo.fw_nil ?_
  intro w2 hww2 hfw2 huw2
  obtain ⟨iend, hiend⟩ := hww2
  have hbw2 := HW.out iend
  rw [← hiend] at hbw2
  clear hiend iend huw2
  have hC2 := Go.Flo.says_ptr ((hfw2 (some 11)).2 rfl).1
  have hown := ((hfw2 (some 26)).1.1.2 rfl).1
  rw [HLM.out]
  simp only [SpO, HLM.out] at hown
  clear hnx1
  obtain ⟨r, hr⟩ : ∃ r : Rq, r = ⟨s, u, cnt, t, a9, m, c9, lm⟩ := ⟨_, rfl⟩
  have hpi : PutIs s u t cnt l r := by subst hr; exact ⟨rfl, rfl, rfl, rfl, HTK.out⟩
  have hok : RqOk w2 B r := by
    subst hr
    exact ⟨hs, hu, hrc, ht, HLM.out, hm189, HBM.out, rd_of_own (f := bv lm) hown (fun i hi => bl_at _ (by rw [HLM.out]; exact hi)), fun x hx => Nat.le_trans hB (hown.lt x.block (by show (Value.slice a9 m c9).ownBlock = _; rw [show a9 = some x from hx]; rfl)).1⟩
  have H2 := Lib.hid (H.out.below hbw2 (Nat.le_refl _))
  refine Go.Flo.tw_step ?_ (fun K hK => ?_)
  · (first | exact Go.Mix.wanted_none rfl | exact Go.Mix.wanted_tt rfl rfl rfl | exact Go.Mix.wanted_ff rfl rfl rfl)
  refine wp_store_row 123 (.tmp 11) (.tmp 27) rfl x1 #[.int .u8 (r.s : Nat), .int .u8 (r.u : Nat), .int .u16 (r.c : Nat), .int .u32 (r.t : Nat), .slice r.a r.n r.cp] rfl (by rw [hr]; rfl) 123 _ hC2 size_rq rfl (by simp [Value.oneCell']) (hK _ _ ?_)
  clear hK K
  refine Go.Flo.tw_nil ?_
  have hbx := setRow_heap _ x1 _ #[.int .u8 (r.s : Nat), .int .u8 (r.u : Nat), .int .u16 (r.c : Nat), .int .u32 (r.t : Nat), .slice r.a r.n r.cp] _ _ hC2
  have hB3 : Below w.heap.size w (w2.setRow x1 #[.int .u8 (r.s : Nat), .int .u8 (r.u : Nat), .int .u16 (r.c : Nat), .int .u32 (r.t : Nat), .slice r.a r.n r.cp]) := ⟨hbw2.os, hbw2.tape, hbw2.output, by simpa [World.setRow] using hbw2.size, fun k hk => (setRow_other _ x1 k _ (by omega)).trans (hbw2.block k hk)⟩
  have hok3 : RqOk (w2.setRow x1 #[.int .u8 (r.s : Nat), .int .u8 (r.u : Nat), .int .u16 (r.c : Nat), .int .u32 (r.t : Nat), .slice r.a r.n r.cp]) B r := ⟨hok.hs, hok.hu, hok.hc, hok.ht, hok.len, hok.le, hok.by_, Rd.away (n := 0) (B := 0) hok.rd (by simp [World.setRow]) (fun x hx hlt => setRow_other _ x1 x.block _ (fun e => by
    have hbl := hown.lt x.block (by rw [hr] at hx; show (Value.slice a9 m c9).ownBlock = _; rw [show a9 = some x from hx]; rfl)
    exact own_not_rq hown hC2 (by rw [hr] at hx; exact hx) e)), hok.lo⟩
  obtain ⟨w3, hw3⟩ : ∃ w3, w3 = w2.setRow x1 #[.int .u8 (r.s : Nat), .int .u8 (r.u : Nat), .int .u16 (r.c : Nat), .int .u32 (r.t : Nat), .slice r.a r.n r.cp] := ⟨_, rfl⟩
  rw [← hw3] at hbx hB3 hok3
  rw [← hw3]
  have H3 := Lib.hid (H.out.below hB3 (Nat.le_refl _))
  have HPI := Lib.hid hpi
  have HOK3 := Lib.hid hok3
  have HB3 := Lib.hid hB3
  clear hfw2 HJ HW hne e1 hC2 hown hbw2 hok hok3 hpi hw3 hr hB3 HRM HLM HTK HBM H2 H p0 p1 hqw
  clear W I
  have p0 := H3.out.p0
  have hqw := box_lt H3.out.box
  have hxw := box_lt hbx
  go_wp2_with fail
  obtain ⟨I, W, hne, hWI, hIW⟩ := Go.Mix.family (fun v => Below w3.heap.size w3 v) (Below.refl _ _)
  have HJ := Lib.hid hIW
  have HW := Lib.hid hWI
  clear hWI hIW
  refine Go.Flo.wp_region (fun w' => ∃ i, w' = W i) 5 [Go.Flo.dflt] (by kernel_rfl) (by kernel_rfl) (by decide) (by rintro _ w' ⟨i, rfl⟩ hb; exact HJ.out _ ((HW.out i).trans (hb.mono (HW.out i).size))) (HJ.out _ (Below.refl _ _).drew) ?_
  simp only [Go.Flo.pair, Go.Mix.calm, List.take, List.drop, if_true, Bool.false_eq_true, if_false, Nat.reduceAdd, Nat.reduceSub]
  have e0 : ∀ i, (W i).cell? ⟨gq, 0, none⟩ = some (.pointer (some ⟨g, 0, none⟩)) := fun i => ((HW.out i).cell (p := ⟨gq, 0, none⟩) hqw).trans p0
  (repeat (first | (refine Go.Flo.fw_calm rfl ?_ (fun K hK => ?_); (first | exact Go.Mix.wanted_none rfl | exact Go.Mix.wanted_tt rfl rfl rfl | exact Go.Mix.wanted_ff rfl rfl rfl); go_big_quiet_op; refine hK _ ?_; clear hK K) | (refine Go.Flo.fw_skip ?_ (fun K hK => ?_); (first | exact Go.Mix.wanted_tf rfl rfl rfl | exact Go.Mix.wanted_ft rfl rfl rfl); go_simp; refine hK _ ?_; clear hK K) | (refine Go.Flo.fw_any rfl ?_ (fun K hK => ?_); (first | exact Go.Mix.wanted_none rfl | exact Go.Mix.wanted_tt rfl rfl rfl | exact Go.Mix.wanted_ff rfl rfl rfl); go_simp; (try (go_ints; try go_simp)); refine hK _ ?_; clear hK K)))
  (refine Go.Flo.fw_calm rfl ?_ (fun K hK => ?_); (first | exact Go.Mix.wanted_none rfl | exact Go.Mix.wanted_tt rfl rfl rfl | exact Go.Mix.wanted_ff rfl rfl rfl); refine Go.Flo.quiet_load_row 123 _ rfl x1 rfl _ #[.int .u8 (r.s : Nat), .int .u8 (r.u : Nat), .int .u16 (r.c : Nat), .int .u32 (r.t : Nat), .slice r.a r.n r.cp] _ (by rintro _ ⟨i, rfl⟩; exact ((HW.out i).block x1 hxw).trans hbx) Try.underlying123 rfl size_rq ?_; go_simp; refine hK _ ?_; clear hK K)
  (repeat (first | (refine Go.Flo.fw_calm rfl ?_ (fun K hK => ?_); (first | exact Go.Mix.wanted_none rfl | exact Go.Mix.wanted_tt rfl rfl rfl | exact Go.Mix.wanted_ff rfl rfl rfl); go_big_quiet_op; refine hK _ ?_; clear hK K) | (refine Go.Flo.fw_skip ?_ (fun K hK => ?_); (first | exact Go.Mix.wanted_tf rfl rfl rfl | exact Go.Mix.wanted_ft rfl rfl rfl); go_simp; refine hK _ ?_; clear hK K) | (refine Go.Flo.fw_any rfl ?_ (fun K hK => ?_); (first | exact Go.Mix.wanted_none rfl | exact Go.Mix.wanted_tt rfl rfl rfl | exact Go.Mix.wanted_ff rfl rfl rfl); go_simp; (try (go_ints; try go_simp)); refine hK _ ?_; clear hK K)))
  refine Go.Flo.fw_nil ?_
  intro w4 hww4 hfw4 huw4
  obtain ⟨iend, hiend⟩ := hww4
  have hbw4 := HW.out iend
  rw [← hiend] at hbw4
  clear hiend iend huw4
  have H4 := Lib.hid (H3.out.below hbw4 (Nat.le_refl _))
  have HOK4 := Lib.hid (HOK3.out.below hbw4 (Nat.le_refl _))
  have HB4 := Lib.hid (HB3.out.trans (hbw4.mono HB3.out.size))
  clear hfw4 HJ HW hne e0 hbx p0 hqw hxw hbw4 H3 HOK3 HB3
  clear W I
  refine Go.Flo.tw_step ?_ (fun K hK => ?_)
  · (first | exact Go.Mix.wanted_none rfl | exact Go.Mix.wanted_tt rfl rfl rfl | exact Go.Mix.wanted_ff rfl rfl rfl)
  (first | go_big_op | go_simp)
  go_at_call 69
  refine (rOffer_room r H4.out.ring hL).mono ?_
  rintro e w5 ⟨rfl, hr5, hk5⟩
  refine hK _ _ ?_
  clear hK K
  refine Go.Flo.tw_step ?_ (fun K hK => ?_)
  · (first | exact Go.Mix.wanted_none rfl | exact Go.Mix.wanted_tt rfl rfl rfl | exact Go.Mix.wanted_ff rfl rfl rfl)
  (first | go_big_op | go_simp)
  refine hK _ _ ?_
  clear hK K
  refine Go.Flo.tw_nil ?_
  have hq5 : w5.heap[gq]? = _ := (hk5.block gq (box_lt H4.out.box) H4.out.ng H4.out.nb).trans H4.out.box
  have HK5 := Lib.hid (Kep3.of_kept (gq := gq) hk5)
  have HR5 := Lib.hid hr5
  have p1 := cell_of_row w5 gq 1 _ _ _ hq5
  have f1 := frozen_of_row w5 gq 1 _ _ hq5
  have HQ5 := Lib.hid hq5
  have hcI : IntKind.u16.wrap ((cnt : Int) + 1) = (((cnt + 1) % 65536 : Nat) : Int) := by rw [IntKind.wrap_u16]; omega
  have hcI2 : ((cnt : Int) + 1) % 65536 = (((cnt + 1) % 65536 : Nat) : Int) := by omega
  obtain ⟨c1, hc1⟩ : ∃ c1, c1 = (cnt + 1) % 65536 := ⟨_, rfl⟩
  rw [← hc1] at hcI hcI2
  have hc1b : c1 < 65536 := by omega
  have HC1 := Lib.hid hc1
  clear hk5 hr5 hq5 hc1
  go_wp2
  go_ret
  have h4 := H4.out
  have hk6 := HK5.out.set 1 (.int .u16 (c1 : Nat))
  rw [← HC1.out]
  refine ⟨rfl, r, HPI.out, ⟨heap_setCell_same _ gq 1 _ _ _ HQ5.out, HR5.out.same (heap_setCell_other _ ⟨gq, 1, none⟩ g _ (Ne.symm h4.ng)) (heap_setCell_other _ ⟨gq, 1, none⟩ b _ (Ne.symm h4.nb)), h4.ng, h4.nb, hc1b, h4.hg, h4.hb, h4.hq, fun y hy => ?_⟩, (Kep3.of_below HB4.out).trans hk6⟩
  have hin : y ∈ L ∨ y = r := by simpa using hy
  rcases hin with hy | rfl
  · exact (h4.data y hy).kep hk6 h4.hq h4.hg h4.hb
  · exact HOK4.out.kep hk6 h4.hq h4.hg h4.hb
set_option maxRecDepth 100000 in
set_option maxHeartbeats 2000000 in
theorem qPut_full {w : World} {B gq g b n cnt d : Nat} {L : List Rq} (h : QuS w B gq g b n cnt d L) (hB : B ≤ w.heap.size) (hL : L.length = n) (s u t : Nat) (hs : s < 256) (hu : u < 256) (ht : t < 4294967296) (a : Option Addr) (len cap : Nat) (l : List Nat)
    (hl : l.length = len) (hby : bytes l) (hr : Rd w.heap.size w a len cap (bv l)) (hlen : len ≤ 100000) :
    Calls Try.prog 23 #[.pointer (some ⟨gq, 0, none⟩), .int .u8 (s : Nat), .int .u8 (u : Nat), .int .u32 (t : Nat), .slice a len cap] w fun e w' => e = .returned (.bool false) ∧ QuS w' B gq g b n cnt (min (d + 1) 65535) L ∧ Kep3 gq g b w w' := by
  have p0 := h.p0
  have p1 := h.p1
  have hqw := box_lt h.box
  have hrc := h.hcnt
  have hle := h.ring.le
  obtain ⟨m, hm⟩ : ∃ m, m = min len 189 := ⟨_, rfl⟩
  have hmn := fun (w : World) => run_minI (P := Try.prog) #[3, 3] 3 .i64 (len : Int) 189 w
  rw [show min (len : Int) 189 = ((m : Nat) : Int) by omega] at hmn
  have hml : m ≤ len := by omega
  have hm189 : m ≤ 189 := by omega
  have hmc : m ≤ cap := by have := hr.le; omega
  have hup := fun w => sl8_upto a len cap m hmc w
  have hlm : (l.take m).length = m := by rw [List.length_take, hl]; omega
  have hrm : Rd w.heap.size w a m cap (bv (l.take m)) := (hr.first hml).same (fun i hi => by unfold bv; simp [List.getD, List.getElem?_take, hi])
  have htk : l.take m = l.take 189 := by
    rw [hm]
    by_cases hc : len ≤ 189
    · rw [Nat.min_eq_left hc, List.take_of_length_le (by omega), List.take_of_length_le (by omega)]
    · rw [Nat.min_eq_right (by omega)]
  have hbm : bytes (l.take m) := fun x hx => hby x (List.mem_of_mem_take hx)
  obtain ⟨lm, hlmm⟩ : ∃ lm, lm = l.take m := ⟨_, rfl⟩
  rw [← hlmm] at hlm hrm htk hbm
  have H := Lib.hid h
  have HRM := Lib.hid hrm
  have HLM := Lib.hid hlm
  have HTK := Lib.hid htk
  have HBM := Lib.hid hbm
  clear h hr hl hm hrm hlm htk hby hbm hlmm
  go_enter Try.func23, Try.ntmps23
  go_wp2_with fail
  obtain ⟨I, W, hne, hWI, hIW⟩ := Go.Mix.family (fun v => Below w.heap.size w v) (Below.refl _ _)
  have HJ := Lib.hid hIW
  have HW := Lib.hid hWI
  clear hWI hIW
  refine Go.Flo.wp_region (fun w' => ∃ i, w' = W i) 15 [SpO w.heap.size lm, Go.Flo.Spec.ptr w.heap.size #[.int .u8 (rq0.s : Nat), .int .u8 (rq0.u : Nat), .int .u16 (rq0.c : Nat), .int .u32 (rq0.t : Nat), .slice rq0.a rq0.n rq0.cp] 123] (by kernel_rfl) (by kernel_rfl) (by decide) (by rintro _ w' ⟨i, rfl⟩ hb; exact HJ.out _ ((HW.out i).trans (hb.mono (HW.out i).size))) (HJ.out _ (Below.refl _ _).drew) ?_
  simp only [Go.Flo.pair, Go.Mix.calm, List.take, List.drop, if_true, Bool.false_eq_true, if_false, Nat.reduceAdd, Nat.reduceSub]
  have e1 : ∀ i, (W i).cell? ⟨gq, 1, none⟩ = some (.int .u16 (cnt : Nat)) := fun i => ((HW.out i).cell (p := ⟨gq, 1, none⟩) hqw).trans p1
  (repeat (first | (refine Go.Flo.fw_calm rfl ?_ (fun K hK => ?_); (first | exact Go.Mix.wanted_none rfl | exact Go.Mix.wanted_tt rfl rfl rfl | exact Go.Mix.wanted_ff rfl rfl rfl); go_big_quiet_op; refine hK _ ?_; clear hK K) | (refine Go.Flo.fw_skip ?_ (fun K hK => ?_); (first | exact Go.Mix.wanted_tf rfl rfl rfl | exact Go.Mix.wanted_ft rfl rfl rfl); go_simp; refine hK _ ?_; clear hK K) | (refine Go.Flo.fw_any rfl ?_ (fun K hK => ?_); (first | exact Go.Mix.wanted_none rfl | exact Go.Mix.wanted_tt rfl rfl rfl | exact Go.Mix.wanted_ff rfl rfl rfl); go_simp; (try (go_ints; try go_simp)); refine hK _ ?_; clear hK K)))
  refine Go.Flo.fw_loud rfl ?_ rfl (by simp) (fun wv hwv hav K hK => ?_) (fun v hv K hK => ?_)
  · (first | exact Go.Mix.wanted_none rfl | exact Go.Mix.wanted_tt rfl rfl rfl | exact Go.Mix.wanted_ff rfl rfl rfl)
  · obtain ⟨iv, rfl⟩ := hwv
    have hbv := HW.out iv
    (first | go_big_op | go_simp)
    go_at_call 68
    refine (Clone_any a m cap w.heap.size lm _ hbv.size HLM.out (HRM.out.below hbv) (by omega)).mono ?_
    rintro e w' ⟨x, rfl, hown, hbb⟩
    exact hK _ _ (owes_O HLM.out rfl hbb hown hbv.size)
  obtain ⟨a9, c9, rfl⟩ := ex_O hv
  go_simp
  refine hK _ ?_
  clear hK K hv
  (repeat (first | (refine Go.Flo.fw_calm rfl ?_ (fun K hK => ?_); (first | exact Go.Mix.wanted_none rfl | exact Go.Mix.wanted_tt rfl rfl rfl | exact Go.Mix.wanted_ff rfl rfl rfl); go_big_quiet_op; refine hK _ ?_; clear hK K) | (refine Go.Flo.fw_skip ?_ (fun K hK => ?_); (first | exact Go.Mix.wanted_tf rfl rfl rfl | exact Go.Mix.wanted_ft rfl rfl rfl); go_simp; refine hK _ ?_; clear hK K) | (refine Go.Flo.fw_any rfl ?_ (fun K hK => ?_); (first | exact Go.Mix.wanted_none rfl | exact Go.Mix.wanted_tt rfl rfl rfl | exact Go.Mix.wanted_ff rfl rfl rfl); go_simp; (try (go_ints; try go_simp)); refine hK _ ?_; clear hK K)))
  refine Go.Flo.fw_loud rfl ?_ rfl (by simp) (fun wv hwv hav K hK => ?_) (fun v hv K hK => ?_)
  · (first | exact Go.Mix.wanted_none rfl | exact Go.Mix.wanted_tt rfl rfl rfl | exact Go.Mix.wanted_ff rfl rfl rfl)
  · obtain ⟨iv, rfl⟩ := hwv
    (first | go_big_op | go_simp)
    refine hK _ _ (Go.Flo.owes_ptr (HW.out iv).size)
  obtain ⟨x1, hx1, rfl, hnx1⟩ := hv.ptr rfl
  go_simp
  refine hK _ ?_
  clear hK K hv
  (repeat (first | (refine Go.Flo.fw_calm rfl ?_ (fun K hK => ?_); (first | exact Go.Mix.wanted_none rfl | exact Go.Mix.wanted_tt rfl rfl rfl | exact Go.Mix.wanted_ff rfl rfl rfl); go_big_quiet_op; refine hK _ ?_; clear hK K) | (refine Go.Flo.fw_skip ?_ (fun K hK => ?_); (first | exact Go.Mix.wanted_tf rfl rfl rfl | exact Go.Mix.wanted_ft rfl rfl rfl); go_simp; refine hK _ ?_; clear hK K) | (refine Go.Flo.fw_any rfl ?_ (fun K hK => ?_); (first | exact Go.Mix.wanted_none rfl | exact Go.Mix.wanted_tt rfl rfl rfl | exact Go.Mix.wanted_ff rfl rfl rfl); go_simp; (try (go_ints; try go_simp)); refine hK _ ?_; clear hK K)))
  refine Go.Flo.fw_nil ?_
  intro w2 hww2 hfw2 huw2
  obtain ⟨iend, hiend⟩ := hww2
  have hbw2 := HW.out iend
  rw [← hiend] at hbw2
  clear hiend iend huw2
  have hC2 := Go.Flo.says_ptr ((hfw2 (some 11)).2 rfl).1
  have hown := ((hfw2 (some 26)).1.1.2 rfl).1
  rw [HLM.out]
  simp only [SpO, HLM.out] at hown
  clear hnx1
  obtain ⟨r, hr⟩ : ∃ r : Rq, r = ⟨s, u, cnt, t, a9, m, c9, lm⟩ := ⟨_, rfl⟩
  have hpi : PutIs s u t cnt l r := by subst hr; exact ⟨rfl, rfl, rfl, rfl, HTK.out⟩
  have hok : RqOk w2 B r := by
    subst hr
    exact ⟨hs, hu, hrc, ht, HLM.out, hm189, HBM.out, rd_of_own (f := bv lm) hown (fun i hi => bl_at _ (by rw [HLM.out]; exact hi)), fun x hx => Nat.le_trans hB (hown.lt x.block (by show (Value.slice a9 m c9).ownBlock = _; rw [show a9 = some x from hx]; rfl)).1⟩
  have H2 := Lib.hid (H.out.below hbw2 (Nat.le_refl _))
  refine Go.Flo.tw_step ?_ (fun K hK => ?_)
  · (first | exact Go.Mix.wanted_none rfl | exact Go.Mix.wanted_tt rfl rfl rfl | exact Go.Mix.wanted_ff rfl rfl rfl)
  refine wp_store_row 123 (.tmp 11) (.tmp 27) rfl x1 #[.int .u8 (r.s : Nat), .int .u8 (r.u : Nat), .int .u16 (r.c : Nat), .int .u32 (r.t : Nat), .slice r.a r.n r.cp] rfl (by rw [hr]; rfl) 123 _ hC2 size_rq rfl (by simp [Value.oneCell']) (hK _ _ ?_)
  clear hK K
  refine Go.Flo.tw_nil ?_
  have hbx := setRow_heap _ x1 _ #[.int .u8 (r.s : Nat), .int .u8 (r.u : Nat), .int .u16 (r.c : Nat), .int .u32 (r.t : Nat), .slice r.a r.n r.cp] _ _ hC2
  have hB3 : Below w.heap.size w (w2.setRow x1 #[.int .u8 (r.s : Nat), .int .u8 (r.u : Nat), .int .u16 (r.c : Nat), .int .u32 (r.t : Nat), .slice r.a r.n r.cp]) := ⟨hbw2.os, hbw2.tape, hbw2.output, by simpa [World.setRow] using hbw2.size, fun k hk => (setRow_other _ x1 k _ (by omega)).trans (hbw2.block k hk)⟩
  have hok3 : RqOk (w2.setRow x1 #[.int .u8 (r.s : Nat), .int .u8 (r.u : Nat), .int .u16 (r.c : Nat), .int .u32 (r.t : Nat), .slice r.a r.n r.cp]) B r := ⟨hok.hs, hok.hu, hok.hc, hok.ht, hok.len, hok.le, hok.by_, Rd.away (n := 0) (B := 0) hok.rd (by simp [World.setRow]) (fun x hx hlt => setRow_other _ x1 x.block _ (fun e => by
    have hbl := hown.lt x.block (by rw [hr] at hx; show (Value.slice a9 m c9).ownBlock = _; rw [show a9 = some x from hx]; rfl)
    exact own_not_rq hown hC2 (by rw [hr] at hx; exact hx) e)), hok.lo⟩
  obtain ⟨w3, hw3⟩ : ∃ w3, w3 = w2.setRow x1 #[.int .u8 (r.s : Nat), .int .u8 (r.u : Nat), .int .u16 (r.c : Nat), .int .u32 (r.t : Nat), .slice r.a r.n r.cp] := ⟨_, rfl⟩
  rw [← hw3] at hbx hB3 hok3
  rw [← hw3]
  have H3 := Lib.hid (H.out.below hB3 (Nat.le_refl _))
  have HPI := Lib.hid hpi
  have HOK3 := Lib.hid hok3
  have HB3 := Lib.hid hB3
  clear hfw2 HJ HW hne e1 hC2 hown hbw2 hok hok3 hpi hw3 hr hB3 HRM HLM HTK HBM H2 H p0 p1 hqw
  clear W I
  have p0 := H3.out.p0
  have hqw := box_lt H3.out.box
  have hxw := box_lt hbx
  go_wp2_with fail
  obtain ⟨I, W, hne, hWI, hIW⟩ := Go.Mix.family (fun v => Below w3.heap.size w3 v) (Below.refl _ _)
  have HJ := Lib.hid hIW
  have HW := Lib.hid hWI
  clear hWI hIW
  refine Go.Flo.wp_region (fun w' => ∃ i, w' = W i) 5 [Go.Flo.dflt] (by kernel_rfl) (by kernel_rfl) (by decide) (by rintro _ w' ⟨i, rfl⟩ hb; exact HJ.out _ ((HW.out i).trans (hb.mono (HW.out i).size))) (HJ.out _ (Below.refl _ _).drew) ?_
  simp only [Go.Flo.pair, Go.Mix.calm, List.take, List.drop, if_true, Bool.false_eq_true, if_false, Nat.reduceAdd, Nat.reduceSub]
  have e0 : ∀ i, (W i).cell? ⟨gq, 0, none⟩ = some (.pointer (some ⟨g, 0, none⟩)) := fun i => ((HW.out i).cell (p := ⟨gq, 0, none⟩) hqw).trans p0
  (repeat (first | (refine Go.Flo.fw_calm rfl ?_ (fun K hK => ?_); (first | exact Go.Mix.wanted_none rfl | exact Go.Mix.wanted_tt rfl rfl rfl | exact Go.Mix.wanted_ff rfl rfl rfl); go_big_quiet_op; refine hK _ ?_; clear hK K) | (refine Go.Flo.fw_skip ?_ (fun K hK => ?_); (first | exact Go.Mix.wanted_tf rfl rfl rfl | exact Go.Mix.wanted_ft rfl rfl rfl); go_simp; refine hK _ ?_; clear hK K) | (refine Go.Flo.fw_any rfl ?_ (fun K hK => ?_); (first | exact Go.Mix.wanted_none rfl | exact Go.Mix.wanted_tt rfl rfl rfl | exact Go.Mix.wanted_ff rfl rfl rfl); go_simp; (try (go_ints; try go_simp)); refine hK _ ?_; clear hK K)))
  (refine Go.Flo.fw_calm rfl ?_ (fun K hK => ?_); (first | exact Go.Mix.wanted_none rfl | exact Go.Mix.wanted_tt rfl rfl rfl | exact Go.Mix.wanted_ff rfl rfl rfl); refine Go.Flo.quiet_load_row 123 _ rfl x1 rfl _ #[.int .u8 (r.s : Nat), .int .u8 (r.u : Nat), .int .u16 (r.c : Nat), .int .u32 (r.t : Nat), .slice r.a r.n r.cp] _ (by rintro _ ⟨i, rfl⟩; exact ((HW.out i).block x1 hxw).trans hbx) Try.underlying123 rfl size_rq ?_; go_simp; refine hK _ ?_; clear hK K)
  (repeat (first | (refine Go.Flo.fw_calm rfl ?_ (fun K hK => ?_); (first | exact Go.Mix.wanted_none rfl | exact Go.Mix.wanted_tt rfl rfl rfl | exact Go.Mix.wanted_ff rfl rfl rfl); go_big_quiet_op; refine hK _ ?_; clear hK K) | (refine Go.Flo.fw_skip ?_ (fun K hK => ?_); (first | exact Go.Mix.wanted_tf rfl rfl rfl | exact Go.Mix.wanted_ft rfl rfl rfl); go_simp; refine hK _ ?_; clear hK K) | (refine Go.Flo.fw_any rfl ?_ (fun K hK => ?_); (first | exact Go.Mix.wanted_none rfl | exact Go.Mix.wanted_tt rfl rfl rfl | exact Go.Mix.wanted_ff rfl rfl rfl); go_simp; (try (go_ints; try go_simp)); refine hK _ ?_; clear hK K)))
  refine Go.Flo.fw_nil ?_
  intro w4 hww4 hfw4 huw4
  obtain ⟨iend, hiend⟩ := hww4
  have hbw4 := HW.out iend
  rw [← hiend] at hbw4
  clear hiend iend huw4
  have H4 := Lib.hid (H3.out.below hbw4 (Nat.le_refl _))
  have HOK4 := Lib.hid (HOK3.out.below hbw4 (Nat.le_refl _))
  have HB4 := Lib.hid (HB3.out.trans (hbw4.mono HB3.out.size))
  clear hfw4 HJ HW hne e0 hbx p0 hqw hxw hbw4 H3 HOK3 HB3
  clear W I
  refine Go.Flo.tw_step ?_ (fun K hK => ?_)
  · (first | exact Go.Mix.wanted_none rfl | exact Go.Mix.wanted_tt rfl rfl rfl | exact Go.Mix.wanted_ff rfl rfl rfl)
  (first | go_big_op | go_simp)
  go_at_call 69
  refine (rOffer_full r H4.out.ring hL).mono ?_
  rintro e w5 ⟨rfl, hr5, hk5⟩
  refine hK _ _ ?_
  clear hK K
  refine Go.Flo.tw_step ?_ (fun K hK => ?_)
  · (first | exact Go.Mix.wanted_none rfl | exact Go.Mix.wanted_tt rfl rfl rfl | exact Go.Mix.wanted_ff rfl rfl rfl)
  (first | go_big_op | go_simp)
  refine hK _ _ ?_
  clear hK K
  refine Go.Flo.tw_nil ?_
  have hq5 : w5.heap[gq]? = _ := (hk5.block gq (box_lt H4.out.box) H4.out.ng H4.out.nb).trans H4.out.box
  have HK5 := Lib.hid (Kep3.of_kept (gq := gq) hk5)
  have HR5 := Lib.hid hr5
  have HQ5 := Lib.hid hq5
  clear hk5 hr5 hq5
  go_wp2
  go_ret
  have h4 := H4.out
  exact ⟨rfl, ⟨HQ5.out, HR5.out, h4.ng, h4.nb, h4.hcnt, h4.hg, h4.hb, h4.hq, fun y hy => (h4.data y hy).kep HK5.out h4.hq h4.hg h4.hb⟩, (Kep3.of_below HB4.out).trans HK5.out⟩
end Go.Proofs.Ytioclbkgfbjpdaa
